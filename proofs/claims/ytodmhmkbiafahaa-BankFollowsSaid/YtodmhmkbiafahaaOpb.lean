/-
  What came in as a mapper, and as what is asked in layer 7's statements, as cells. Over this seat's translation.
-/
import Derived.Test.YtodmhmkbiafahaaOpn
import Derived.Test.YtodmhmkbiafahaaOpc5
import Derived.Test.YtodmhmkbiafahaaBan
namespace Go.Proofs.Ytodmhmkbiafahaa
open Go.ChangeShapes Go.WideShapes Go.ChangeAt Go.RowKit

theorem cb_map : Try.prog.cellsOf 24 = 27 := by kernel_rfl
theorem cb_r8 : Try.prog.cellsOf 22 = 8 := by kernel_rfl
theorem cb_i64 : Try.prog.cellsOf 2 = 1 := by kernel_rfl
theorem cb_u16 : Try.prog.cellsOf 25 = 1 := by kernel_rfl
theorem cb_ask : Try.prog.cellsOf 27 = 29 := by kernel_rfl
def bskT (s a : Int) : List Value := [.int .i64 s, .int .u16 a]
def bskC (m : Mp) (s a : Int) : Array Value := ((mpC m).toList ++ bskT s a).toArray
theorem bsk_part (m : Mp) (s a : Int) (j : Nat) (x : Value) (h : (mpC m)[j]? = some x) : (bskC m s a)[0 + j]? = some x := by
  have hj : j < 27 := (Array.getElem?_eq_some_iff.1 h).1
  unfold bskC
  rw [List.getElem?_toArray, Nat.zero_add, List.getElem?_append_left (by show j < 27; exact hj)]
  simpa using h
theorem bsk_27 (m : Mp) (s a : Int) : (bskC m s a)[27]? = some (.int .i64 s) := rfl
theorem bsk_28 (m : Mp) (s a : Int) : (bskC m s a)[28]? = some (.int .u16 a) := rfl
section
variable {H : Type} {enc : TypeId × Value → H} {w : World} {base : Nat} {spare : Nat → Bool} {held : Bool}
theorem open_r8b {fuel : Nat} {cs : List Value} {x : DataW H × List MemPlace} (hl : cs.length = 8) (h : DataW.trod enc Try.prog w base spare held fuel 22 cs = some x) :
    ∃ a b c d e f g h : Int, cs = [.int .u8 a, .int .u8 b, .int .u8 c, .int .u8 d, .int .u8 e, .int .u8 f, .int .u8 g, .int .u8 h] ∧ (0 ≤ a ∧ a < 256) ∧ (0 ≤ b ∧ b < 256) ∧ (0 ≤ c ∧ c < 256) ∧ (0 ≤ d ∧ d < 256) ∧ (0 ≤ e ∧ e < 256) ∧ (0 ≤ f ∧ f < 256) ∧ (0 ≤ g ∧ g < 256) ∧ (0 ≤ h ∧ h < 256) := by
  obtain ⟨xs, k, _, hx, hl', hxl, hel⟩ := DataW.trod_array Try.underlying22 h
  rw [c_u8] at hel
  have hi : ∀ i, i < 8 → ∃ v : Int, (cs.drop (i * 1)).take 1 = [.int .u8 v] ∧ (0 ≤ v ∧ v < 256) := fun i hi => by
    have h1 := hel i hi
    rw [List.getElem?_eq_getElem (by omega)] at h1
    obtain ⟨v, hv, hb⟩ := open_u8 h1
    exact ⟨v, hv, hb⟩
  match cs, hl with
  | [c0, c1, c2, c3, c4, c5, c6, c7], _ =>
    obtain ⟨v0, e0, b0⟩ := hi 0 (by decide)
    obtain ⟨v1, e1, b1⟩ := hi 1 (by decide)
    obtain ⟨v2, e2, b2⟩ := hi 2 (by decide)
    obtain ⟨v3, e3, b3⟩ := hi 3 (by decide)
    obtain ⟨v4, e4, b4⟩ := hi 4 (by decide)
    obtain ⟨v5, e5, b5⟩ := hi 5 (by decide)
    obtain ⟨v6, e6, b6⟩ := hi 6 (by decide)
    obtain ⟨v7, e7, b7⟩ := hi 7 (by decide)
    simp at e0 e1 e2 e3 e4 e5 e6 e7
    exact ⟨v0, v1, v2, v3, v4, v5, v6, v7, by rw [e0, e1, e2, e3, e4, e5, e6, e7], b0, b1, b2, b3, b4, b5, b6, b7⟩
/-- A mapper's twenty-seven cells. -/
theorem map_cellsb {fuel : Nat} {cs : List Value} {x : DataW H × List MemPlace} (hl : cs.length = 27) (hf : DataW.trod enc Try.prog w base spare held fuel 24 cs = some x) : ∃ m : Mp, cs = (mpC m).toList ∧ m.oct := by
  match cs, hl with
  | [c0, c1, c2, c3, c4, c5, c6, c7, c8, c9, c10, c11, c12, c13, c14, c15, c16, c17, c18, c19, c20, c21, c22, c23, c24, c25, c26], _ =>
    obtain ⟨n0, y0, h0⟩ := open_field Try.underlying24 hf 0 rfl 3 0 1 rfl rfl c_intc
    obtain ⟨n1, y1, h1⟩ := open_field Try.underlying24 hf 1 rfl 4 1 1 rfl rfl c_bool
    obtain ⟨n2, y2, h2⟩ := open_field Try.underlying24 hf 2 rfl 4 2 1 rfl rfl c_bool
    obtain ⟨n3, y3, h3⟩ := open_field Try.underlying24 hf 3 rfl 5 3 1 rfl rfl c_u8
    obtain ⟨n4, y4, h4⟩ := open_field Try.underlying24 hf 4 rfl 5 4 1 rfl rfl c_u8
    obtain ⟨n5, y5, h5⟩ := open_field Try.underlying24 hf 5 rfl 5 5 1 rfl rfl c_u8
    obtain ⟨n6, y6, h6⟩ := open_field Try.underlying24 hf 6 rfl 5 6 1 rfl rfl c_u8
    obtain ⟨n7, y7, h7⟩ := open_field Try.underlying24 hf 7 rfl 5 7 1 rfl rfl c_u8
    obtain ⟨n8, y8, h8⟩ := open_field Try.underlying24 hf 8 rfl 5 8 1 rfl rfl c_u8
    obtain ⟨n9, y9, h9⟩ := open_field Try.underlying24 hf 9 rfl 2 9 1 rfl rfl cb_i64
    obtain ⟨n10, y10, h10⟩ := open_field Try.underlying24 hf 10 rfl 5 10 1 rfl rfl c_u8
    obtain ⟨n11, y11, h11⟩ := open_field Try.underlying24 hf 11 rfl 5 11 1 rfl rfl c_u8
    obtain ⟨n12, y12, h12⟩ := open_field Try.underlying24 hf 12 rfl 5 12 1 rfl rfl c_u8
    obtain ⟨n13, y13, h13⟩ := open_field Try.underlying24 hf 13 rfl 22 13 8 rfl rfl cb_r8
    obtain ⟨n14, y14, h14⟩ := open_field Try.underlying24 hf 14 rfl 5 21 1 rfl rfl c_u8
    obtain ⟨n15, y15, h15⟩ := open_field Try.underlying24 hf 15 rfl 5 22 1 rfl rfl c_u8
    obtain ⟨n16, y16, h16⟩ := open_field Try.underlying24 hf 16 rfl 4 23 1 rfl rfl c_bool
    obtain ⟨n17, y17, h17⟩ := open_field Try.underlying24 hf 17 rfl 4 24 1 rfl rfl c_bool
    obtain ⟨n18, y18, h18⟩ := open_field Try.underlying24 hf 18 rfl 4 25 1 rfl rfl c_bool
    obtain ⟨n19, y19, h19⟩ := open_field Try.underlying24 hf 19 rfl 3 26 1 rfl rfl c_intc
    obtain ⟨v0, e0, _⟩ := DataW.trod_int Try.underlying3 h0
    obtain ⟨v1, e1⟩ := open_boolc h1
    obtain ⟨v2, e2⟩ := open_boolc h2
    obtain ⟨v3, e3, b3⟩ := open_u8 h3
    obtain ⟨v4, e4, b4⟩ := open_u8 h4
    obtain ⟨v5, e5, b5⟩ := open_u8 h5
    obtain ⟨v6, e6, b6⟩ := open_u8 h6
    obtain ⟨v7, e7, b7⟩ := open_u8 h7
    obtain ⟨v8, e8, b8⟩ := open_u8 h8
    obtain ⟨v9, e9, _⟩ := DataW.trod_int Try.underlying2 h9
    obtain ⟨v10, e10, b10⟩ := open_u8 h10
    obtain ⟨v11, e11, b11⟩ := open_u8 h11
    obtain ⟨v12, e12, b12⟩ := open_u8 h12
    obtain ⟨q0, q1, q2, q3, q4, q5, q6, q7, e13, g0b, g1b, g2b, g3b, g4b, g5b, g6b, g7b⟩ := open_r8b rfl h13
    obtain ⟨v14, e14, b14⟩ := open_u8 h14
    obtain ⟨v15, e15, b15⟩ := open_u8 h15
    obtain ⟨v16, e16⟩ := open_boolc h16
    obtain ⟨v17, e17⟩ := open_boolc h17
    obtain ⟨v18, e18⟩ := open_boolc h18
    obtain ⟨v19, e19, _⟩ := DataW.trod_int Try.underlying3 h19
    simp only [List.drop_zero, List.drop_succ_cons, List.take_succ_cons, List.take_zero, List.cons.injEq, and_true] at e0 e1 e2 e3 e4 e5 e6 e7 e8 e9 e10 e11 e12 e13 e14 e15 e16 e17 e18 e19
    obtain ⟨g0, g1, g2, g3, g4, g5, g6, g7⟩ := e13
    exact ⟨⟨v0, v1, v2, v3, v4, v5, v6, v7, v8, v9, v10, v11, v12, q0, q1, q2, q3, q4, q5, q6, q7, v14, v15, v16, v17, v18, v19⟩, by rw [e0, e1, e2, e3, e4, e5, e6, e7, e8, e9, e10, e11, e12, g0, g1, g2, g3, g4, g5, g6, g7, e14, e15, e16, e17, e18, e19]; rfl, ⟨b3, b4, b5, b6, b7, b8, b10, b11, b12, g0b, g1b, g2b, g3b, g4b, g5b, g6b, g7b, b14, b15⟩⟩
theorem open_bask {r : Reach} {b0 : Nat} {v : Value} {d : DataW H} {p : List MemPlace} (hv : Value.okWide Try.prog w r b0 27 v) (h : DataW.Trod enc Try.prog w base spare held 27 v d p) :
    ∃ (m : Mp) (s a : Int), v = .agg (bskC m s a) ∧ m.oct ∧ (0 ≤ a ∧ a < 65536) := by
  obtain ⟨cs, fuel, x, rfl, hl, hf⟩ := open_cells Try.underlying27 hv h
  rw [cb_ask] at hl
  obtain ⟨n1, y1, h1⟩ := open_field Try.underlying27 hf 0 rfl 24 0 27 rfl rfl cb_map
  obtain ⟨n0, y0, h0⟩ := open_field Try.underlying27 hf 1 rfl 3 27 1 rfl rfl c_intc
  obtain ⟨n2, y2, h2⟩ := open_field Try.underlying27 hf 2 rfl 25 28 1 rfl rfl cb_u16
  obtain ⟨m, em, ok⟩ := map_cellsb (by simp [hl]) h1
  obtain ⟨s, es, _⟩ := DataW.trod_int Try.underlying3 h0
  obtain ⟨a, ea, _, ba⟩ := DataW.trod_int Try.underlying25 h2
  have hau := bounds_u16 ba
  refine ⟨m, s, a, ?_, ok, ⟨by omega, by omega⟩⟩
  have e : cs = (cs.drop 0).take 27 ++ ((cs.drop 27).take 1 ++ (cs.drop 28).take 1) := by
    apply List.ext_getElem?
    intro k
    simp only [List.getElem?_append, List.length_take, List.length_drop, List.getElem?_take, List.getElem?_drop, hl]
    repeat' split
    all_goals first
      | rfl
      | (congr 1; omega)
      | omega
      | (rw [List.getElem?_eq_none (by omega)])
      | skip
  rw [e, em, es, ea]
  show Value.agg _ = Value.agg _
  congr 1
/-- A mapper that came in by itself. -/
theorem open_bmap {r : Reach} {b0 : Nat} {v : Value} {d : DataW H} {p : List MemPlace} (hv : Value.okWide Try.prog w r b0 24 v) (h : DataW.Trod enc Try.prog w base spare held 24 v d p) :
    ∃ m : Mp, v = .agg (mpC m) ∧ m.oct := by
  obtain ⟨cs, fuel, x, rfl, hl, hf⟩ := open_cells Try.underlying24 hv h
  rw [cb_map] at hl
  obtain ⟨m, em, ok⟩ := map_cellsb hl hf
  exact ⟨m, by rw [em], ok⟩
end
end Go.Proofs.Ytodmhmkbiafahaa
