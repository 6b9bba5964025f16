/-
  What came in as units, and as what is asked in layer 15's statements, as cells. Over this seat's translation; no condition.
-/
import Derived.Test.YtphnpahjofacfaaOpn
import Derived.Test.YtphnpahjofacfaaSpm
namespace Go.Proofs.Ytphnpahjofacfaa
open Go.ChangeShapes Go.WideShapes Go.ChangeAt Go.RowKit Go.Deep

def unAt (l : List Un) (k : Nat) : Un := l.getD k un0
/-- A slice of units that reads as a list. -/
def RdU (w : World) (v : Value) (l : List Un) : Prop :=
  ∃ a cap, v = .slice a l.length cap ∧ l.length ≤ cap ∧ cap ≤ maxLen ∧ (l = [] ∨ ∃ b off, a = some ⟨b, off, none⟩ ∧ b < w.heap.size ∧
    ∀ k, k < l.length → ∀ j u, (unL (unAt l k))[j]? = some u → w.cell? ⟨b, off + k * 7 + j, none⟩ = some u)
theorem rdu0 (w : World) : RdU w (.slice none 0 0) [] := ⟨_, _, rfl, by simp, by simp [maxLen], .inl rfl⟩
theorem RdU.below {w w' : World} {v : Value} {l : List Un} (h : RdU w v l) (hb : Below w.heap.size w w') : RdU w' v l := by
  obtain ⟨a, cap, hv, hl, hm, h⟩ := h
  refine ⟨a, cap, hv, hl, hm, ?_⟩
  rcases h with h | ⟨b, off, ha, hlt, hc⟩
  · exact .inl h
  · refine .inr ⟨b, off, ha, Nat.lt_of_lt_of_le hlt hb.size, fun k hk j u hu => ?_⟩
    rw [hb.cell (p := ⟨b, off + k * 7 + j, none⟩) hlt]
    exact hc k hk j u hu
theorem RdU.take {w : World} {b off cap : Nat} {l : List Un} (n : Nat) (hn : n ≤ l.length) (hcap : l.length ≤ cap) (hm : cap ≤ maxLen) (hb : b < w.heap.size)
    (hc : ∀ k, k < l.length → ∀ j u, (unL (unAt l k))[j]? = some u → w.cell? ⟨b, off + k * 7 + j, none⟩ = some u) : RdU w (.slice (some ⟨b, off, none⟩) n cap) (l.take n) := by
  have e : (l.take n).length = n := by rw [List.length_take]; omega
  refine ⟨_, cap, by rw [e], by omega, hm, .inr ⟨b, off, rfl, hb, fun k hk j u hu => ?_⟩⟩
  rw [e] at hk
  refine hc k (by omega) j u ?_
  have : unAt (l.take n) k = unAt l k := by
    unfold unAt
    rw [List.getD_eq_getElem?_getD, List.getD_eq_getElem?_getD, List.getElem?_take, if_pos hk]
  rw [← this]
  exact hu
/-- What is asked: a sprite, a line, how they are, two bytes, and a column. -/
structure Sa where
  i : Int
  line : Int
  tall : Bool
  table : Bool
  lo : BitVec 8
  ls : Bool
  hi : BitVec 8
  hs : Bool
  x : Int
def saC (q : Sa) : Array Value := #[.int .i64 q.i, .int .i64 q.line, .bool q.tall, .bool q.table, .int .u8 (w8 q.lo), .bool q.ls, .int .u8 (w8 q.hi), .bool q.hs, .int .i64 q.x]
theorem csp_int : Try.prog.cellsOf 3 = 1 := by kernel_rfl
theorem csp_unit : Try.prog.cellsOf 36 = 7 := by kernel_rfl
theorem csp_ask : Try.prog.cellsOf 26 = 9 := by kernel_rfl
section
variable {H : Type} {enc : TypeId × Value → H} {w : World} {base : Nat} {spare : Nat → Bool} {held : Bool}
theorem open_i64s {fuel : Nat} {cs : List Value} {x : DataW H × List MemPlace} (h : DataW.trod enc Try.prog w base spare held fuel 3 cs = some x) : ∃ v : Int, cs = [.int .i64 v] ∧ -9223372036854775808 ≤ v ∧ v < 9223372036854775808 := by
  obtain ⟨v, e, _, b⟩ := DataW.trod_int Try.underlying3 h
  have := bounds_i64 b
  exact ⟨v, e, by omega, by omega⟩
theorem open_s8 {fuel : Nat} {cs : List Value} {x : DataW H × List MemPlace} (h : DataW.trod enc Try.prog w base spare held fuel 5 cs = some x) : ∃ v : BitVec 8, cs = [.int .u8 (w8 v)] := by
  obtain ⟨v, e, b⟩ := open_u8 h
  obtain ⟨z, rfl⟩ := w8_ex b.1 b.2
  exact ⟨z, e⟩
theorem open_sbw {fuel : Nat} {cs : List Value} {x : DataW H × List MemPlace} (hl : cs.length = 2) (h : DataW.trod enc Try.prog w base spare held fuel 24 cs = some x) : ∃ (v : BitVec 8) (s : Bool), cs = [.int .u8 (w8 v), .bool s] := by
  obtain ⟨v, s, e, b⟩ := open_byte hl h
  obtain ⟨z, rfl⟩ := w8_ex b.1 b.2
  exact ⟨z, s, e⟩
theorem unit_cells {fuel : Nat} {cs : List Value} {x : DataW H × List MemPlace} (hl : cs.length = 7) (h : DataW.trod enc Try.prog w base spare held fuel 36 cs = some x) : ∃ u : Un, cs = unL u := by
  match cs, hl with
  | [c0, c1, c2, c3, c4, c5, c6], _ =>
    obtain ⟨n0, y0, h0⟩ := open_field Try.underlying36 h 0 rfl 5 0 1 rfl rfl c_u8
    obtain ⟨n1, y1, h1⟩ := open_field Try.underlying36 h 1 rfl 5 1 1 rfl rfl c_u8
    obtain ⟨n2, y2, h2⟩ := open_field Try.underlying36 h 2 rfl 5 2 1 rfl rfl c_u8
    obtain ⟨n3, y3, h3⟩ := open_field Try.underlying36 h 3 rfl 5 3 1 rfl rfl c_u8
    obtain ⟨n4, y4, h4⟩ := open_field Try.underlying36 h 4 rfl 4 4 1 rfl rfl c_bool
    obtain ⟨n5, y5, h5⟩ := open_field Try.underlying36 h 5 rfl 4 5 1 rfl rfl c_bool
    obtain ⟨n6, y6, h6⟩ := open_field Try.underlying36 h 6 rfl 4 6 1 rfl rfl c_bool
    obtain ⟨v0, e0⟩ := open_s8 h0
    obtain ⟨v1, e1⟩ := open_s8 h1
    obtain ⟨v2, e2⟩ := open_s8 h2
    obtain ⟨v3, e3⟩ := open_s8 h3
    obtain ⟨v4, e4⟩ := open_boolc h4
    obtain ⟨v5, e5⟩ := open_boolc h5
    obtain ⟨v6, e6⟩ := open_boolc h6
    simp at e0 e1 e2 e3 e4 e5 e6
    exact ⟨⟨v0, v1, v2, v3, v4, v5, v6⟩, by rw [e0, e1, e2, e3, e4, e5, e6]; rfl⟩
set_option maxRecDepth 100000 in
/-- A slice of units that came in. -/
theorem open_units {r : Reach} {b0 : Nat} {v : Value} {d : DataW H} {p : List MemPlace} (hv : Value.okWide Try.prog w r b0 48 v) (h : DataW.Trod enc Try.prog w base spare held 48 v d p) :
    ∃ l, RdU w v l := by
  obtain ⟨a0, len0, cap0, rfl⟩ := okWide_slice Try.underlying48 hv
  obtain ⟨fuel, hf⟩ := h
  rcases open_slice Try.underlying48 hf with ⟨hcs, _⟩ | ⟨a, len, cap, m, n, D, Pl, hcs, _, hl, hm, hmm, _, hi⟩
  · simp [Value.cells] at hcs
    obtain ⟨rfl, rfl, rfl⟩ := hcs
    exact ⟨[], rdu0 _⟩
  · simp [Value.cells] at hcs
    obtain ⟨rfl, rfl, rfl⟩ := hcs
    have hlm : len0 ≤ m := by rw [hmm]; split <;> omega
    obtain ⟨l, hll, hq⟩ := list_of len0 un0 (fun i q => ∀ j u, (unL q)[j]? = some u → w.cell? (a.add (i * 7 + j)) = some u) (fun i hil => by
      obtain ⟨cs', hc, ht⟩ := hi i (by omega)
      rw [csp_unit] at hc
      obtain ⟨_, hcl, hat⟩ := World.cells?_some hc
      obtain ⟨u, rfl⟩ := unit_cells hcl ht
      refine ⟨u, fun j v hj => ?_⟩
      have hj7 : j < 7 := (List.getElem?_eq_some_iff.1 hj).1
      have := hat j (by omega)
      rw [Go.Deep.add_add] at this
      rw [this]
      simpa using hj)
    refine ⟨l, ⟨some a, cap0, by rw [hll], by omega, hm, ?_⟩⟩
    by_cases h0 : l = []
    · exact .inl h0
    · have hpos : 0 < len0 := by
        rw [← hll]
        exact List.length_pos_iff.2 h0
      obtain ⟨b, off, spot⟩ := a
      have h1 := hq 0 hpos 1 _ rfl
      have h10 := hq 0 hpos 0 _ rfl
      have hspot : spot = none := by simpa [Addr.add] using World.cell?_spot h10
      subst hspot
      refine .inr ⟨b, off, rfl, ?_, fun k hk j u hu => ?_⟩
      · exact World.block_lt_of_cell? w ⟨b, off + (0 * 7 + 1), none⟩ (by simpa [Addr.add] using h1)
      · have g1 := hq k (by omega) j u hu
        have e1 : Addr.add ⟨b, off, none⟩ (k * 7 + j) = ⟨b, off + k * 7 + j, none⟩ := by unfold Addr.add; split <;> simp_all <;> omega
        rw [e1] at g1
        exact g1
theorem open_sask {r : Reach} {b0 : Nat} {v : Value} {d : DataW H} {p : List MemPlace} (hv : Value.okWide Try.prog w r b0 26 v) (h : DataW.Trod enc Try.prog w base spare held 26 v d p) :
    ∃ q : Sa, v = .agg (saC q) ∧ (-9223372036854775808 ≤ q.i ∧ q.i < 9223372036854775808) ∧ (-9223372036854775808 ≤ q.line ∧ q.line < 9223372036854775808) ∧ (-9223372036854775808 ≤ q.x ∧ q.x < 9223372036854775808) := by
  obtain ⟨cs, fuel, x, rfl, hl, hf⟩ := open_cells Try.underlying26 hv h
  rw [csp_ask] at hl
  match cs, hl with
  | [c0, c1, c2, c3, c4, c5, c6, c7, c8], _ =>
    obtain ⟨n0, y0, h0⟩ := open_field Try.underlying26 hf 0 rfl 3 0 1 rfl rfl csp_int
    obtain ⟨n1, y1, h1⟩ := open_field Try.underlying26 hf 1 rfl 3 1 1 rfl rfl csp_int
    obtain ⟨n2, y2, h2⟩ := open_field Try.underlying26 hf 2 rfl 4 2 1 rfl rfl c_bool
    obtain ⟨n3, y3, h3⟩ := open_field Try.underlying26 hf 3 rfl 4 3 1 rfl rfl c_bool
    obtain ⟨n4, y4, h4⟩ := open_field Try.underlying26 hf 4 rfl 24 4 2 rfl rfl c_byte
    obtain ⟨n5, y5, h5⟩ := open_field Try.underlying26 hf 5 rfl 24 6 2 rfl rfl c_byte
    obtain ⟨n6, y6, h6⟩ := open_field Try.underlying26 hf 6 rfl 3 8 1 rfl rfl csp_int
    obtain ⟨i, e0, b0⟩ := open_i64s h0
    obtain ⟨line, e1, b1⟩ := open_i64s h1
    obtain ⟨tall, e2⟩ := open_boolc h2
    obtain ⟨table, e3⟩ := open_boolc h3
    obtain ⟨lo, ls, e4⟩ := open_sbw rfl h4
    obtain ⟨hi, hs, e5⟩ := open_sbw rfl h5
    obtain ⟨x, e6, b6⟩ := open_i64s h6
    simp at e0 e1 e2 e3 e4 e5 e6
    exact ⟨⟨i, line, tall, table, lo, ls, hi, hs, x⟩, by rw [e0, e1, e2, e3, e4.1, e4.2, e5.1, e5.2, e6]; rfl, b0, b1, b6⟩
end
end Go.Proofs.Ytphnpahjofacfaa
