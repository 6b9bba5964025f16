/-
  NARROWER THAN 'FOR EVERY INPUT', by the rows' own cells (each row's printed sentence says how): VramTells: laid · VramWithin: laid · VramMirrors: laid.
  DERIVED. THE GIVEN ROWS OF THIS SEAT. 3 by the template 'for every input the law returns true; each argument reads behind the call as it read before'; 0 by the template 'total and deterministic' (their statements: YtbonamhinnhlnaaDoorTotals.lean).
  GIVEN WITH THE SEED: the statements are not yours to turn. If you find one false, say at which input.
  Laid BY PROGRAM, IN A SANDBOX (cutbox-rows.mjs): the forced cells as the released guide's own fill.sh prints them over the translation a971db938fbb3dd5… (all of the seat's roots in one cut). By AI agents, Wed Nov 11 2026. No macro, syntax, notation, axiom, sorry.
-/
import Derived.Test.YtbonamhinnhlnaaDoorChecked
import GoSem.Claim
import GoSem.ClaimJoined
import GoSem.ClaimMapViews
import Derived.JoinedTies
import Derived.KernelRfl
namespace Go.Proofs.YtbonamhinnhlnaaDoor
/- THE CELL 'sum', in the pinned program and in every row, IS THE sha256 OF THE DUMP (.gsa) THAT YtbonamhinnhlnaaDoorProg.lean LOADS. Nothing in Lean hashes anything: it is a label: what it is worth is what the hold of that sum in a sandbox is worth. -/
noncomputable def Tryd.pinned : Pinned := { name := "ytbonamhinnhlnaadoor", sum := "a971db938fbb3dd5e1d38b31a3f82a7b2c2f1ad9db8327ab6da4ba9692dfc28d", checked := Tryd.checked }
namespace Rows
def none {H : Type} : Left H := { results := [], args := [] }

/- WHAT THE LISTED PACKAGE-LEVEL VARIABLES READ AS WHEN THE CALL BEGINS. Each datum BY PROGRAM (the guide's laid-datum.mjs) off the statement by which the dump's own 'gosem.cut.vars' lays the variable. In a bare row this is a premise. The card (YtbonamhinnhlnaaDoorCards.lean) ties it to the program's text. -/
def laid_seepage_vram_numbers {H : Type} : DataW H := .agg [.agg [.lit (.int .i64 0), .lit (.int .i64 0), .lit (.int .i64 1), .lit (.int .i64 1)], .agg [.lit (.int .i64 0), .lit (.int .i64 1), .lit (.int .i64 0), .lit (.int .i64 1)], .agg [.lit (.int .i64 0), .lit (.int .i64 0), .lit (.int .i64 0), .lit (.int .i64 0)], .agg [.lit (.int .i64 1), .lit (.int .i64 1), .lit (.int .i64 1), .lit (.int .i64 1)], .agg [.lit (.int .i64 0), .lit (.int .i64 1), .lit (.int .i64 2), .lit (.int .i64 3)]]

/-- 'seepagelaw13.VramTells': WHATEVER THE INPUT: true; the input reads as it did. -/
def vramTellsSpec : ChangeSpec := { name := "vramTells", fn := fun _ => fun
  | [d1, d2] => { results := [.lit (.bool true)], args := [d1, d2] }
  | _ => none }
def vramTellsRow : OpenClaim := { program := "ytbonamhinnhlnaadoor", sum := "a971db938fbb3dd5e1d38b31a3f82a7b2c2f1ad9db8327ab6da4ba9692dfc28d", func := "seepage/seepagelaw13.VramTells", spec := "vramTells", named := ["seepage/vram.numbers"], apart := false, laid := [("seepage/vram.numbers", laid_seepage_vram_numbers)] }
def VramTellsSaid : Prop := vramTellsRow.holds Tryd.pinned (OpenSpec.ofChange vramTellsSpec)

/-- ITS FALSE NEIGHBOUR: 'it returns false'. Refute it at one input. -/
def vramTellsWrong : ChangeSpec := { name := "vramTells", fn := fun _ => fun
  | [d1, d2] => { results := [.lit (.bool false)], args := [d1, d2] }
  | _ => none }
def VramTellsWrongFalsely : Prop := vramTellsRow.holds Tryd.pinned (OpenSpec.ofChange vramTellsWrong)

/-- 'seepagelaw13.VramWithin': WHATEVER THE INPUT: true; the input reads as it did. -/
def vramWithinSpec : ChangeSpec := { name := "vramWithin", fn := fun _ => fun
  | [d1, d2] => { results := [.lit (.bool true)], args := [d1, d2] }
  | _ => none }
def vramWithinRow : OpenClaim := { program := "ytbonamhinnhlnaadoor", sum := "a971db938fbb3dd5e1d38b31a3f82a7b2c2f1ad9db8327ab6da4ba9692dfc28d", func := "seepage/seepagelaw13.VramWithin", spec := "vramWithin", named := ["seepage/vram.numbers"], apart := false, laid := [("seepage/vram.numbers", laid_seepage_vram_numbers)] }
def VramWithinSaid : Prop := vramWithinRow.holds Tryd.pinned (OpenSpec.ofChange vramWithinSpec)

/-- ITS FALSE NEIGHBOUR: 'it returns false'. Refute it at one input. -/
def vramWithinWrong : ChangeSpec := { name := "vramWithin", fn := fun _ => fun
  | [d1, d2] => { results := [.lit (.bool false)], args := [d1, d2] }
  | _ => none }
def VramWithinWrongFalsely : Prop := vramWithinRow.holds Tryd.pinned (OpenSpec.ofChange vramWithinWrong)

/-- 'seepagelaw13.VramMirrors': WHATEVER THE INPUT: true; the input reads as it did. -/
def vramMirrorsSpec : ChangeSpec := { name := "vramMirrors", fn := fun _ => fun
  | [d1, d2, d3] => { results := [.lit (.bool true)], args := [d1, d2, d3] }
  | _ => none }
def vramMirrorsRow : OpenClaim := { program := "ytbonamhinnhlnaadoor", sum := "a971db938fbb3dd5e1d38b31a3f82a7b2c2f1ad9db8327ab6da4ba9692dfc28d", func := "seepage/seepagelaw13.VramMirrors", spec := "vramMirrors", named := ["seepage/vram.numbers"], apart := false, laid := [("seepage/vram.numbers", laid_seepage_vram_numbers)] }
def VramMirrorsSaid : Prop := vramMirrorsRow.holds Tryd.pinned (OpenSpec.ofChange vramMirrorsSpec)

/-- ITS FALSE NEIGHBOUR: 'it returns false'. Refute it at one input. -/
def vramMirrorsWrong : ChangeSpec := { name := "vramMirrors", fn := fun _ => fun
  | [d1, d2, d3] => { results := [.lit (.bool false)], args := [d1, d2, d3] }
  | _ => none }
def VramMirrorsWrongFalsely : Prop := vramMirrorsRow.holds Tryd.pinned (OpenSpec.ofChange vramMirrorsWrong)

/- THE SECOND FORM. 'bulk': how many values and letters a reading holds, each counted each time it is reached (what is shared counts as often as it is met; a slice's spare places count too). A statement '..UptoSaid' is the law's where the arguments, and the package variables that the reading takes, are together of bulk at most 1048576: NARROWER than '..Said'. Prove '..Said' where nothing that the law and all that it calls make is longer than what came in: it says more and counts as full. Else prove '..UptoSaid'. A law counts once. -/
mutual
def uptoBulk {H : Type} : DataW H → Nat
  | .lit (.string bytes) => bytes.length + 1
  | .lit _ => 1
  | .nil => 1
  | .ptr d => uptoBulk d + 1
  | .slice elems spare => uptoBulkAll elems + uptoBulkAll spare + 1
  | .agg parts => uptoBulkAll parts + 1
  | .iface _ d => uptoBulk d + 1
  | .map entries => uptoBulkEntries entries + 1
  | .held _ => 1
def uptoBulkAll {H : Type} : List (DataW H) → Nat
  | [] => 0
  | d :: r => uptoBulk d + uptoBulkAll r
def uptoBulkEntries {H : Type} : List (Lit × DataW H) → Nat
  | [] => 0
  | x :: r => uptoBulkEntry x + uptoBulkEntries r
def uptoBulkEntry {H : Type} : Lit × DataW H → Nat
  | (.string bytes, d) => bytes.length + uptoBulk d + 1
  | (_, d) => uptoBulk d + 1
 end
def uptoSmall : (H : Type) → List (DataW H) → Bool := fun _ ds => decide (uptoBulkAll ds ≤ 1048576)
def OpenSpec.upto (s : _root_.Go.ChangeSpec) : _root_.Go.OpenSpec := { _root_.Go.OpenSpec.ofChange s with cond := some uptoSmall }

/-- 'seepagelaw13.VramTells', WHERE WHAT IT READS IS OF BULK AT MOST 1048576: true; the input reads as it did. -/
def vramTellsUptoRow : OpenClaim := { program := "ytbonamhinnhlnaadoor", sum := "a971db938fbb3dd5e1d38b31a3f82a7b2c2f1ad9db8327ab6da4ba9692dfc28d", func := "seepage/seepagelaw13.VramTells", spec := "vramTells", named := ["seepage/vram.numbers"], apart := false, laid := [("seepage/vram.numbers", laid_seepage_vram_numbers)], narrowed := true }
def VramTellsUptoSaid : Prop := vramTellsUptoRow.holds Tryd.pinned (OpenSpec.upto vramTellsSpec)

/-- 'seepagelaw13.VramWithin', WHERE WHAT IT READS IS OF BULK AT MOST 1048576: true; the input reads as it did. -/
def vramWithinUptoRow : OpenClaim := { program := "ytbonamhinnhlnaadoor", sum := "a971db938fbb3dd5e1d38b31a3f82a7b2c2f1ad9db8327ab6da4ba9692dfc28d", func := "seepage/seepagelaw13.VramWithin", spec := "vramWithin", named := ["seepage/vram.numbers"], apart := false, laid := [("seepage/vram.numbers", laid_seepage_vram_numbers)], narrowed := true }
def VramWithinUptoSaid : Prop := vramWithinUptoRow.holds Tryd.pinned (OpenSpec.upto vramWithinSpec)

/-- 'seepagelaw13.VramMirrors', WHERE WHAT IT READS IS OF BULK AT MOST 1048576: true; the input reads as it did. -/
def vramMirrorsUptoRow : OpenClaim := { program := "ytbonamhinnhlnaadoor", sum := "a971db938fbb3dd5e1d38b31a3f82a7b2c2f1ad9db8327ab6da4ba9692dfc28d", func := "seepage/seepagelaw13.VramMirrors", spec := "vramMirrors", named := ["seepage/vram.numbers"], apart := false, laid := [("seepage/vram.numbers", laid_seepage_vram_numbers)], narrowed := true }
def VramMirrorsUptoSaid : Prop := vramMirrorsUptoRow.holds Tryd.pinned (OpenSpec.upto vramMirrorsSpec)

end Rows
end Go.Proofs.YtbonamhinnhlnaaDoor
