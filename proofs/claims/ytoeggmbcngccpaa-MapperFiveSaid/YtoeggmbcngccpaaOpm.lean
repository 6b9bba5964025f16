/-
  What came in as a mapper, and as what is asked in layer 6's statements, as cells. Over this seat's translation.
-/
import Derived.Test.YtoeggmbcngccpaaOpn
import Derived.Test.YtoeggmbcngccpaaOpc5
import Derived.Test.YtoeggmbcngccpaaMax
namespace Go.Proofs.Ytoeggmbcngccpaa
open Go.ChangeShapes Go.WideShapes Go.ChangeAt Go.RowKit

theorem c_map : Try.prog.cellsOf 26 = 27 := by kernel_rfl
theorem c_r8 : Try.prog.cellsOf 24 = 8 := by kernel_rfl
theorem c_i64 : Try.prog.cellsOf 2 = 1 := by kernel_rfl
theorem c_u16m : Try.prog.cellsOf 27 = 1 := by kernel_rfl
theorem c_ask : Try.prog.cellsOf 29 = 40 := by kernel_rfl
section
variable {H : Type} {enc : TypeId × Value → H} {w : World} {base : Nat} {spare : Nat → Bool} {held : Bool}
theorem open_r8 {fuel : Nat} {cs : List Value} {x : DataW H × List MemPlace} (hl : cs.length = 8) (h : DataW.trod enc Try.prog w base spare held fuel 24 cs = some x) :
    ∃ a b c d e f g h : Int, cs = [.int .u8 a, .int .u8 b, .int .u8 c, .int .u8 d, .int .u8 e, .int .u8 f, .int .u8 g, .int .u8 h] := by
  obtain ⟨xs, k, _, hx, hl', hxl, hel⟩ := DataW.trod_array Try.underlying24 h
  rw [c_u8] at hel
  have hi : ∀ i, i < 8 → ∃ v : Int, (cs.drop (i * 1)).take 1 = [.int .u8 v] := fun i hi => by
    have h1 := hel i hi
    rw [List.getElem?_eq_getElem (by omega)] at h1
    obtain ⟨v, hv, _⟩ := open_u8 h1
    exact ⟨v, hv⟩
  match cs, hl with
  | [c0, c1, c2, c3, c4, c5, c6, c7], _ =>
    obtain ⟨v0, e0⟩ := hi 0 (by decide)
    obtain ⟨v1, e1⟩ := hi 1 (by decide)
    obtain ⟨v2, e2⟩ := hi 2 (by decide)
    obtain ⟨v3, e3⟩ := hi 3 (by decide)
    obtain ⟨v4, e4⟩ := hi 4 (by decide)
    obtain ⟨v5, e5⟩ := hi 5 (by decide)
    obtain ⟨v6, e6⟩ := hi 6 (by decide)
    obtain ⟨v7, e7⟩ := hi 7 (by decide)
    simp at e0 e1 e2 e3 e4 e5 e6 e7
    exact ⟨v0, v1, v2, v3, v4, v5, v6, v7, by rw [e0, e1, e2, e3, e4, e5, e6, e7]⟩
/-- A mapper's twenty-seven cells. -/
theorem map_cells {fuel : Nat} {cs : List Value} {x : DataW H × List MemPlace} (hl : cs.length = 27) (hf : DataW.trod enc Try.prog w base spare held fuel 26 cs = some x) : ∃ m : Mp, cs = (mpC m).toList ∧ MpOk m := by
  match cs, hl with
  | [c0, c1, c2, c3, c4, c5, c6, c7, c8, c9, c10, c11, c12, c13, c14, c15, c16, c17, c18, c19, c20, c21, c22, c23, c24, c25, c26], _ =>
    obtain ⟨n0, y0, h0⟩ := open_field Try.underlying26 hf 0 rfl 3 0 1 rfl rfl c_intc
    obtain ⟨n1, y1, h1⟩ := open_field Try.underlying26 hf 1 rfl 4 1 1 rfl rfl c_bool
    obtain ⟨n2, y2, h2⟩ := open_field Try.underlying26 hf 2 rfl 4 2 1 rfl rfl c_bool
    obtain ⟨n3, y3, h3⟩ := open_field Try.underlying26 hf 3 rfl 5 3 1 rfl rfl c_u8
    obtain ⟨n4, y4, h4⟩ := open_field Try.underlying26 hf 4 rfl 5 4 1 rfl rfl c_u8
    obtain ⟨n5, y5, h5⟩ := open_field Try.underlying26 hf 5 rfl 5 5 1 rfl rfl c_u8
    obtain ⟨n6, y6, h6⟩ := open_field Try.underlying26 hf 6 rfl 5 6 1 rfl rfl c_u8
    obtain ⟨n7, y7, h7⟩ := open_field Try.underlying26 hf 7 rfl 5 7 1 rfl rfl c_u8
    obtain ⟨n8, y8, h8⟩ := open_field Try.underlying26 hf 8 rfl 5 8 1 rfl rfl c_u8
    obtain ⟨n9, y9, h9⟩ := open_field Try.underlying26 hf 9 rfl 2 9 1 rfl rfl c_i64
    obtain ⟨n10, y10, h10⟩ := open_field Try.underlying26 hf 10 rfl 5 10 1 rfl rfl c_u8
    obtain ⟨n11, y11, h11⟩ := open_field Try.underlying26 hf 11 rfl 5 11 1 rfl rfl c_u8
    obtain ⟨n12, y12, h12⟩ := open_field Try.underlying26 hf 12 rfl 5 12 1 rfl rfl c_u8
    obtain ⟨n13, y13, h13⟩ := open_field Try.underlying26 hf 13 rfl 24 13 8 rfl rfl c_r8
    obtain ⟨n14, y14, h14⟩ := open_field Try.underlying26 hf 14 rfl 5 21 1 rfl rfl c_u8
    obtain ⟨n15, y15, h15⟩ := open_field Try.underlying26 hf 15 rfl 5 22 1 rfl rfl c_u8
    obtain ⟨n16, y16, h16⟩ := open_field Try.underlying26 hf 16 rfl 4 23 1 rfl rfl c_bool
    obtain ⟨n17, y17, h17⟩ := open_field Try.underlying26 hf 17 rfl 4 24 1 rfl rfl c_bool
    obtain ⟨n18, y18, h18⟩ := open_field Try.underlying26 hf 18 rfl 4 25 1 rfl rfl c_bool
    obtain ⟨n19, y19, h19⟩ := open_field Try.underlying26 hf 19 rfl 3 26 1 rfl rfl c_intc
    obtain ⟨v0, e0, _⟩ := DataW.trod_int Try.underlying3 h0
    obtain ⟨v1, e1⟩ := open_boolc h1
    obtain ⟨v2, e2⟩ := open_boolc h2
    obtain ⟨v3, e3, b3⟩ := open_u8 h3
    obtain ⟨v4, e4, b4⟩ := open_u8 h4
    obtain ⟨v5, e5, b5⟩ := open_u8 h5
    obtain ⟨v6, e6, b6⟩ := open_u8 h6
    obtain ⟨v7, e7, b7⟩ := open_u8 h7
    obtain ⟨v8, e8, b8⟩ := open_u8 h8
    obtain ⟨v9, e9, _⟩ := DataW.trod_int Try.underlying2 h9
    obtain ⟨v10, e10, b10⟩ := open_u8 h10
    obtain ⟨v11, e11, b11⟩ := open_u8 h11
    obtain ⟨v12, e12, b12⟩ := open_u8 h12
    obtain ⟨q0, q1, q2, q3, q4, q5, q6, q7, e13⟩ := open_r8 rfl h13
    obtain ⟨v14, e14, b14⟩ := open_u8 h14
    obtain ⟨v15, e15, b15⟩ := open_u8 h15
    obtain ⟨v16, e16⟩ := open_boolc h16
    obtain ⟨v17, e17⟩ := open_boolc h17
    obtain ⟨v18, e18⟩ := open_boolc h18
    obtain ⟨v19, e19, _⟩ := DataW.trod_int Try.underlying3 h19
    simp only [List.drop_zero, List.drop_succ_cons, List.take_succ_cons, List.take_zero, List.cons.injEq, and_true] at e0 e1 e2 e3 e4 e5 e6 e7 e8 e9 e10 e11 e12 e13 e14 e15 e16 e17 e18 e19
    obtain ⟨g0, g1, g2, g3, g4, g5, g6, g7⟩ := e13
    exact ⟨⟨v0, v1, v2, v3, v4, v5, v6, v7, v8, v9, v10, v11, v12, q0, q1, q2, q3, q4, q5, q6, q7, v14, v15, v16, v17, v18, v19⟩, by rw [e0, e1, e2, e3, e4, e5, e6, e7, e8, e9, e10, e11, e12, g0, g1, g2, g3, g4, g5, g6, g7, e14, e15, e16, e17, e18, e19]; rfl, ⟨b3, b4, b5, b11, b14, b15⟩⟩
theorem open_ask {r : Reach} {b0 : Nat} {v : Value} {d : DataW H} {p : List MemPlace} (hv : Value.okWide Try.prog w r b0 29 v) (h : DataW.Trod enc Try.prog w base spare held 29 v d p) :
    ∃ (c : Crt) (m : Mp) (a x u : Int) (b : Bool), v = .agg (askC c m a x u b) ∧ MpOk m ∧ (0 ≤ a ∧ a < 65536) ∧ (0 ≤ x ∧ x < 256) := by
  obtain ⟨cs, fuel, x, rfl, hl, hf⟩ := open_cells Try.underlying29 hv h
  rw [c_ask] at hl
  obtain ⟨n0, y0, h0⟩ := open_field Try.underlying29 hf 0 rfl 23 0 9 rfl rfl c_cart
  obtain ⟨n1, y1, h1⟩ := open_field Try.underlying29 hf 1 rfl 26 9 27 rfl rfl c_map
  obtain ⟨n2, y2, h2⟩ := open_field Try.underlying29 hf 2 rfl 27 36 1 rfl rfl c_u16m
  obtain ⟨n3, y3, h3⟩ := open_field Try.underlying29 hf 3 rfl 5 37 1 rfl rfl c_u8
  obtain ⟨n4, y4, h4⟩ := open_field Try.underlying29 hf 4 rfl 2 38 1 rfl rfl c_i64
  obtain ⟨n5, y5, h5⟩ := open_field Try.underlying29 hf 5 rfl 4 39 1 rfl rfl c_bool
  obtain ⟨c, ec⟩ := cart_cells (by simp [hl]) h0
  obtain ⟨m, em, ok⟩ := map_cells (by simp [hl]) h1
  obtain ⟨a, ea, _, ba⟩ := DataW.trod_int Try.underlying27 h2
  obtain ⟨z, ez, bz⟩ := open_u8 h3
  obtain ⟨u, eu, _⟩ := DataW.trod_int Try.underlying2 h4
  obtain ⟨b, eb⟩ := open_boolc h5
  have hau := bounds_u16 ba
  refine ⟨c, m, a, z, u, b, ?_, ok, ⟨by omega, by omega⟩, bz⟩
  have hc : (cs.drop 0).take 9 = crtL c := by
    have := congrArg Value.cells ec
    simpa [Value.cells, crtV, crtL] using this
  have e : cs = (cs.drop 0).take 9 ++ ((cs.drop 9).take 27 ++ ((cs.drop 36).take 1 ++ ((cs.drop 37).take 1 ++ ((cs.drop 38).take 1 ++ (cs.drop 39).take 1)))) := by
    apply List.ext_getElem?
    intro k
    simp only [List.getElem?_append, List.length_take, List.length_drop, List.getElem?_take, List.getElem?_drop, hl]
    repeat' split
    all_goals first
      | rfl
      | (congr 1; omega)
      | omega
      | (rw [List.getElem?_eq_none (by omega)])
      | skip
  rw [e, hc, em, ea, ez, eu, eb]
  show Value.agg _ = Value.agg _
  congr 1
end
end Go.Proofs.Ytoeggmbcngccpaa
