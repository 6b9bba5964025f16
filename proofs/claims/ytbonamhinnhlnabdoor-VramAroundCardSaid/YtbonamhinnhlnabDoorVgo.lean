/-
  From what a row lists of package vram's variable of numbers to what the contracts ask of the world. Over this seat's translation.
-/
import Derived.Test.YtbonamhinnhlnabDoorRows
import Derived.Test.YtbonamhinnhlnabDoorWrb
import Derived.Test.YtbonamhinnhlnabDoorVrm
namespace Go.Proofs.YtbonamhinnhlnabDoor
open Go Go.RowKit Go.WideShapes Go.ChangeShapes

theorem nNum : Tryd.prog.globalNamed "seepage/vram.numbers" = some 0 := by kernel_rfl
theorem yNum : (Tryd.prog.globals[0]?).map (·.type) = some 33 := by kernel_rfl
def rowN (i : Nat) : List Int := (noZ.drop (4 * i)).take 4
set_option maxRecDepth 100000 in
theorem globv_of {W : World} {l : List (String × DataW Unit)} (h : laidMet Tryd.prog l W) (m : ("seepage/vram.numbers", Rows.laid_seepage_vram_numbers) ∈ l) : GlobV W := by
  obtain ⟨g, t, cs, fuel, p, hg, hty, hvar, hd⟩ := Lib.laidMet.reads h m
  obtain rfl := Option.some.inj (nNum.symm.trans hg)
  obtain rfl := Option.some.inj (yNum.symm.trans hty)
  have c5 : Tryd.prog.cellsOf 3 = 1 := by kernel_rfl
  have c40 : Tryd.prog.cellsOf 32 = 4 := by kernel_rfl
  have hcell : ∀ (k : Nat) (c : Int), noZ[k]? = some c → W.cell? ⟨0, k, none⟩ = some (.int .i64 c) := by
    intro k c hk
    have hk20 : k < 20 := (List.getElem?_eq_some_iff.1 hk).1
    rw [show (Rows.laid_seepage_vram_numbers : DataW Unit) = .agg ((List.range 5).map fun i => Lib.tabData .i64 (rowN i)) from rfl] at hd
    obtain ⟨fuel', d, q, hdi, he⟩ := Lib.array_elem Tryd.underlying33 hd (k / 4) (by omega)
    simp only [List.getElem?_map, List.getElem?_range (show k / 4 < 5 by omega), Option.map_some, Option.some.injEq] at hdi
    subst hdi
    rw [c40] at he
    have hcs := Lib.cells_of_tab (zs := rowN (k / 4)) Tryd.underlying32 Tryd.underlying3 c5 c40 he
    have e := congrArg (·[k % 4]?) hcs
    simp only [List.getElem?_take, List.getElem?_drop] at e
    rw [World.var?_cell nNum hvar k, ← Array.getElem?_toList]
    rw [if_pos (by omega), show k / 4 * 4 + k % 4 = k by omega] at e
    rw [e, List.getElem?_map]
    unfold rowN
    rw [List.getElem?_take, List.getElem?_drop, if_pos (by omega), show 4 * (k / 4) + k % 4 = k by omega, hk]
    rfl
  exact ⟨hcell, World.block_lt_of_cell? W _ (hcell 0 0 rfl)⟩
end Go.Proofs.YtbonamhinnhlnabDoor
