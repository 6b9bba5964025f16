/-
  What came in as a Places, as its cells. Over this seat's translation.
-/
import Derived.Test.YtjiilcnbajcdhaaDoorOpn
namespace Go.Proofs.YtjiilcnbajcdhaaDoor
open Go.ChangeShapes Go.WideShapes Go.ChangeAt Go.RowKit

theorem c_plc : Tryd.prog.cellsOf 24 = 4 := by kernel_rfl
theorem c_u16p : Tryd.prog.cellsOf 22 = 1 := by kernel_rfl
section
variable {H : Type} {enc : TypeId × Value → H} {w : World} {base : Nat} {spare : Nat → Bool} {held : Bool}
set_option maxRecDepth 100000 in
theorem open_u16n {fuel : Nat} {cs : List Value} {x : DataW H × List MemPlace} (h : DataW.trod enc Tryd.prog w base spare held fuel 22 cs = some x) : ∃ n : Nat, cs = [.int .u16 (n : Int)] ∧ n < 65536 := by
  obtain ⟨a, ha, _, hab⟩ := DataW.trod_int Tryd.underlying22 h
  have hau := bounds_u16 hab
  exact ⟨a.toNat, by rw [ha, Int.toNat_of_nonneg (by omega)], by omega⟩
set_option maxRecDepth 100000 in
theorem open_places {r : Reach} {b0 : Nat} {v : Value} {d : DataW H} {p : List MemPlace} (hv : Value.okWide Tryd.prog w r b0 24 v) (h : DataW.Trod enc Tryd.prog w base spare held 24 v d p) :
    ∃ (i j k : Nat) (s : Bool), v = .agg #[.int .u16 (i : Int), .int .u16 (j : Int), .int .u16 (k : Int), .bool s] ∧ i < 65536 ∧ j < 65536 ∧ k < 65536 := by
  obtain ⟨cs, fuel, x, rfl, hl, hf⟩ := open_cells Tryd.underlying24 hv h
  rw [c_plc] at hl
  match cs, hl with
  | [c0, c1, c2, c3], _ =>
    obtain ⟨n0, y0, h0⟩ := open_field Tryd.underlying24 hf 0 rfl 22 0 1 rfl rfl c_u16p
    obtain ⟨n1, y1, h1⟩ := open_field Tryd.underlying24 hf 1 rfl 22 1 1 rfl rfl c_u16p
    obtain ⟨n2, y2, h2⟩ := open_field Tryd.underlying24 hf 2 rfl 22 2 1 rfl rfl c_u16p
    obtain ⟨n3, y3, h3⟩ := open_field Tryd.underlying24 hf 3 rfl 4 3 1 rfl rfl c_bool
    obtain ⟨i, hi, hib⟩ := open_u16n h0
    obtain ⟨j, hj, hjb⟩ := open_u16n h1
    obtain ⟨k, hk, hkb⟩ := open_u16n h2
    obtain ⟨s, hs⟩ := open_boolc h3
    simp at hi hj hk hs
    exact ⟨i, j, k, s, by rw [hi, hj, hk, hs], hib, hjb, hkb⟩
end
end Go.Proofs.YtjiilcnbajcdhaaDoor
