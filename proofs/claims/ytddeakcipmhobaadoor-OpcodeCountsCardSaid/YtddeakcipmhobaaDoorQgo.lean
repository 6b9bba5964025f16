/-
  From what a row lists of package opcode's variable of cycles to what the contracts ask of the world. Over this seat's translation.
-/
import Derived.Test.YtddeakcipmhobaaDoorRows
import Derived.Test.YtddeakcipmhobaaDoorWrb
import Derived.Test.YtddeakcipmhobaaDoorOqf
namespace Go.Proofs.YtddeakcipmhobaaDoor
open Go Go.RowKit Go.WideShapes Go.ChangeShapes

theorem nCyc : Tryd.prog.globalNamed "seepage/opcode.cycles" = some 0 := by kernel_rfl
theorem yCyc : (Tryd.prog.globals[0]?).map (·.type) = some 41 := by kernel_rfl
def rowZ (i : Nat) : List Int := (cyZ.drop (4 * i)).take 4
set_option maxRecDepth 100000 in
theorem globo_of {W : World} {l : List (String × DataW Unit)} (h : laidMet Tryd.prog l W) (m : ("seepage/opcode.cycles", Rows.laid_seepage_opcode_cycles) ∈ l) : GlobO W := by
  obtain ⟨g, t, cs, fuel, p, hg, hty, hvar, hd⟩ := Lib.laidMet.reads h m
  obtain rfl := Option.some.inj (nCyc.symm.trans hg)
  obtain rfl := Option.some.inj (yCyc.symm.trans hty)
  have c5 : Tryd.prog.cellsOf 5 = 1 := by kernel_rfl
  have c40 : Tryd.prog.cellsOf 40 = 4 := by kernel_rfl
  have hcell : ∀ (k : Nat) (c : Int), cyZ[k]? = some c → W.cell? ⟨0, k, none⟩ = some (.int .u8 c) := by
    intro k c hk
    have hk84 : k < 84 := (List.getElem?_eq_some_iff.1 hk).1
    rw [show (Rows.laid_seepage_opcode_cycles : DataW Unit) = .agg ((List.range 21).map fun i => Lib.tabData .u8 (rowZ i)) from rfl] at hd
    obtain ⟨fuel', d, q, hdi, he⟩ := Lib.array_elem Tryd.underlying41 hd (k / 4) (by omega)
    simp only [List.getElem?_map, List.getElem?_range (show k / 4 < 21 by omega), Option.map_some, Option.some.injEq] at hdi
    subst hdi
    rw [c40] at he
    have hcs := Lib.cells_of_tab (zs := rowZ (k / 4)) Tryd.underlying40 Tryd.underlying5 c5 c40 he
    have e := congrArg (·[k % 4]?) hcs
    simp only [List.getElem?_take, List.getElem?_drop] at e
    rw [World.var?_cell nCyc hvar k, ← Array.getElem?_toList]
    rw [if_pos (by omega), show k / 4 * 4 + k % 4 = k by omega] at e
    rw [e, List.getElem?_map]
    unfold rowZ
    rw [List.getElem?_take, List.getElem?_drop, if_pos (by omega), show 4 * (k / 4) + k % 4 = k by omega, hk]
    rfl
  exact ⟨hcell, World.block_lt_of_cell? W _ (hcell 0 2 rfl)⟩
end Go.Proofs.YtddeakcipmhobaaDoor
