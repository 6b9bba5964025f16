/-
  NARROWER THAN 'FOR EVERY INPUT', by the rows' own cells (each row's printed sentence says how): FlatTells: laid · FlatProgram: laid · FlatLoop: laid.
  DERIVED. THE GIVEN ROWS OF THIS SEAT. 3 by the template 'for every input the law returns true; each argument reads behind the call as it read before'; 0 by the template 'total and deterministic' (their statements: YtbonamhinnhlnaaGreatDoorTotals.lean).
  GIVEN WITH THE SEED: the statements are not yours to turn. If you find one false, say at which input.
  Laid BY PROGRAM, IN A SANDBOX (cutbox-rows.mjs): the forced cells as the released guide's own fill.sh prints them over the translation 30a74f00fc6e7d37… (all of the seat's roots in one cut). By AI agents, Wed Nov 11 2026. No macro, syntax, notation, axiom, sorry.
-/
import Derived.Test.YtbonamhinnhlnaaGreatDoorChecked
import GoSem.Claim
import GoSem.ClaimJoined
import GoSem.ClaimMapViews
import Derived.JoinedTies
import Derived.KernelRfl
namespace Go.Proofs.YtbonamhinnhlnaaGreatDoor
/- THE CELL 'sum', in the pinned program and in every row, IS THE sha256 OF THE DUMP (.gsa) THAT YtbonamhinnhlnaaGreatDoorProg.lean LOADS. Nothing in Lean hashes anything: it is a label: what it is worth is what the hold of that sum in a sandbox is worth. -/
noncomputable def Tryz.pinned : Pinned := { name := "ytbonamhinnhlnaagreatdoor", sum := "30a74f00fc6e7d376f44d465f5913d5490fa688e872e3ab4904d050540411381", checked := Tryz.checked }
namespace Rows
def none {H : Type} : Left H := { results := [], args := [] }

/- WHAT THE LISTED PACKAGE-LEVEL VARIABLES READ AS WHEN THE CALL BEGINS. Each datum BY PROGRAM (the guide's laid-datum.mjs) off the statement by which the dump's own 'gosem.cut.vars' lays the variable. In a bare row this is a premise. The card (YtbonamhinnhlnaaGreatDoorCards.lean) ties it to the program's text. -/
def laid_seepage_opcode_cycles {H : Type} : DataW H := .agg [.agg [.lit (.int .u8 2), .lit (.int .u8 0), .lit (.int .u8 0), .lit (.int .u8 0)], .agg [.lit (.int .u8 2), .lit (.int .u8 0), .lit (.int .u8 0), .lit (.int .u8 0)], .agg [.lit (.int .u8 0), .lit (.int .u8 2), .lit (.int .u8 0), .lit (.int .u8 0)], .agg [.lit (.int .u8 0), .lit (.int .u8 3), .lit (.int .u8 3), .lit (.int .u8 5)], .agg [.lit (.int .u8 0), .lit (.int .u8 4), .lit (.int .u8 4), .lit (.int .u8 6)], .agg [.lit (.int .u8 0), .lit (.int .u8 4), .lit (.int .u8 4), .lit (.int .u8 6)], .agg [.lit (.int .u8 0), .lit (.int .u8 4), .lit (.int .u8 4), .lit (.int .u8 6)], .agg [.lit (.int .u8 0), .lit (.int .u8 4), .lit (.int .u8 5), .lit (.int .u8 7)], .agg [.lit (.int .u8 0), .lit (.int .u8 4), .lit (.int .u8 5), .lit (.int .u8 7)], .agg [.lit (.int .u8 0), .lit (.int .u8 6), .lit (.int .u8 6), .lit (.int .u8 8)], .agg [.lit (.int .u8 0), .lit (.int .u8 5), .lit (.int .u8 6), .lit (.int .u8 8)], .agg [.lit (.int .u8 2), .lit (.int .u8 0), .lit (.int .u8 0), .lit (.int .u8 0)], .agg [.lit (.int .u8 5), .lit (.int .u8 0), .lit (.int .u8 0), .lit (.int .u8 0)], .agg [.lit (.int .u8 3), .lit (.int .u8 0), .lit (.int .u8 0), .lit (.int .u8 0)], .agg [.lit (.int .u8 6), .lit (.int .u8 0), .lit (.int .u8 0), .lit (.int .u8 0)], .agg [.lit (.int .u8 6), .lit (.int .u8 0), .lit (.int .u8 0), .lit (.int .u8 0)], .agg [.lit (.int .u8 6), .lit (.int .u8 0), .lit (.int .u8 0), .lit (.int .u8 0)], .agg [.lit (.int .u8 7), .lit (.int .u8 0), .lit (.int .u8 0), .lit (.int .u8 0)], .agg [.lit (.int .u8 3), .lit (.int .u8 0), .lit (.int .u8 0), .lit (.int .u8 0)], .agg [.lit (.int .u8 4), .lit (.int .u8 0), .lit (.int .u8 0), .lit (.int .u8 0)], .agg [.lit (.int .u8 0), .lit (.int .u8 0), .lit (.int .u8 0), .lit (.int .u8 0)]]

/-- 'seepagelaw11.FlatTells': WHATEVER THE INPUT: true; the input reads as it did. -/
def flatTellsSpec : ChangeSpec := { name := "flatTells", fn := fun _ => fun
  | [d1, d2, d3] => { results := [.lit (.bool true)], args := [d1, d2, d3] }
  | _ => none }
def flatTellsRow : OpenClaim := { program := "ytbonamhinnhlnaagreatdoor", sum := "30a74f00fc6e7d376f44d465f5913d5490fa688e872e3ab4904d050540411381", func := "seepage/seepagelaw11.FlatTells", spec := "flatTells", unfollowed := true, recurses := true, named := ["seepage/opcode.cycles"], apart := false, laid := [("seepage/opcode.cycles", laid_seepage_opcode_cycles)] }
def FlatTellsSaid : Prop := flatTellsRow.holds Tryz.pinned (OpenSpec.ofChange flatTellsSpec)

/-- ITS FALSE NEIGHBOUR: 'it returns false'. Refute it at one input. -/
def flatTellsWrong : ChangeSpec := { name := "flatTells", fn := fun _ => fun
  | [d1, d2, d3] => { results := [.lit (.bool false)], args := [d1, d2, d3] }
  | _ => none }
def FlatTellsWrongFalsely : Prop := flatTellsRow.holds Tryz.pinned (OpenSpec.ofChange flatTellsWrong)

/-- 'seepagelaw11.FlatProgram': WHATEVER THE INPUT: true; the input reads as it did. -/
def flatProgramSpec : ChangeSpec := { name := "flatProgram", fn := fun _ => fun
  | [d1, d2, d3] => { results := [.lit (.bool true)], args := [d1, d2, d3] }
  | _ => none }
def flatProgramRow : OpenClaim := { program := "ytbonamhinnhlnaagreatdoor", sum := "30a74f00fc6e7d376f44d465f5913d5490fa688e872e3ab4904d050540411381", func := "seepage/seepagelaw11.FlatProgram", spec := "flatProgram", unfollowed := true, recurses := true, named := ["seepage/opcode.cycles"], apart := false, laid := [("seepage/opcode.cycles", laid_seepage_opcode_cycles)] }
def FlatProgramSaid : Prop := flatProgramRow.holds Tryz.pinned (OpenSpec.ofChange flatProgramSpec)

/-- ITS FALSE NEIGHBOUR: 'it returns false'. Refute it at one input. -/
def flatProgramWrong : ChangeSpec := { name := "flatProgram", fn := fun _ => fun
  | [d1, d2, d3] => { results := [.lit (.bool false)], args := [d1, d2, d3] }
  | _ => none }
def FlatProgramWrongFalsely : Prop := flatProgramRow.holds Tryz.pinned (OpenSpec.ofChange flatProgramWrong)

/-- 'seepagelaw11.FlatLoop': WHATEVER THE INPUT: true; the input reads as it did. -/
def flatLoopSpec : ChangeSpec := { name := "flatLoop", fn := fun _ => fun
  | [d1, d2] => { results := [.lit (.bool true)], args := [d1, d2] }
  | _ => none }
def flatLoopRow : OpenClaim := { program := "ytbonamhinnhlnaagreatdoor", sum := "30a74f00fc6e7d376f44d465f5913d5490fa688e872e3ab4904d050540411381", func := "seepage/seepagelaw11.FlatLoop", spec := "flatLoop", unfollowed := true, recurses := true, named := ["seepage/opcode.cycles"], apart := false, laid := [("seepage/opcode.cycles", laid_seepage_opcode_cycles)] }
def FlatLoopSaid : Prop := flatLoopRow.holds Tryz.pinned (OpenSpec.ofChange flatLoopSpec)

/-- ITS FALSE NEIGHBOUR: 'it returns false'. Refute it at one input. -/
def flatLoopWrong : ChangeSpec := { name := "flatLoop", fn := fun _ => fun
  | [d1, d2] => { results := [.lit (.bool false)], args := [d1, d2] }
  | _ => none }
def FlatLoopWrongFalsely : Prop := flatLoopRow.holds Tryz.pinned (OpenSpec.ofChange flatLoopWrong)

/- THE SECOND FORM. 'bulk': how many values and letters a reading holds, each counted each time it is reached (what is shared counts as often as it is met; a slice's spare places count too). A statement '..UptoSaid' is the law's where the arguments, and the package variables that the reading takes, are together of bulk at most 1048576: NARROWER than '..Said'. Prove '..Said' where nothing that the law and all that it calls make is longer than what came in: it says more and counts as full. Else prove '..UptoSaid'. A law counts once. -/
mutual
def uptoBulk {H : Type} : DataW H → Nat
  | .lit (.string bytes) => bytes.length + 1
  | .lit _ => 1
  | .nil => 1
  | .ptr d => uptoBulk d + 1
  | .slice elems spare => uptoBulkAll elems + uptoBulkAll spare + 1
  | .agg parts => uptoBulkAll parts + 1
  | .iface _ d => uptoBulk d + 1
  | .map entries => uptoBulkEntries entries + 1
  | .held _ => 1
def uptoBulkAll {H : Type} : List (DataW H) → Nat
  | [] => 0
  | d :: r => uptoBulk d + uptoBulkAll r
def uptoBulkEntries {H : Type} : List (Lit × DataW H) → Nat
  | [] => 0
  | x :: r => uptoBulkEntry x + uptoBulkEntries r
def uptoBulkEntry {H : Type} : Lit × DataW H → Nat
  | (.string bytes, d) => bytes.length + uptoBulk d + 1
  | (_, d) => uptoBulk d + 1
 end
def uptoSmall : (H : Type) → List (DataW H) → Bool := fun _ ds => decide (uptoBulkAll ds ≤ 1048576)
def OpenSpec.upto (s : _root_.Go.ChangeSpec) : _root_.Go.OpenSpec := { _root_.Go.OpenSpec.ofChange s with cond := some uptoSmall }

/-- 'seepagelaw11.FlatTells', WHERE WHAT IT READS IS OF BULK AT MOST 1048576: true; the input reads as it did. -/
def flatTellsUptoRow : OpenClaim := { program := "ytbonamhinnhlnaagreatdoor", sum := "30a74f00fc6e7d376f44d465f5913d5490fa688e872e3ab4904d050540411381", func := "seepage/seepagelaw11.FlatTells", spec := "flatTells", unfollowed := true, recurses := true, named := ["seepage/opcode.cycles"], apart := false, laid := [("seepage/opcode.cycles", laid_seepage_opcode_cycles)], narrowed := true }
def FlatTellsUptoSaid : Prop := flatTellsUptoRow.holds Tryz.pinned (OpenSpec.upto flatTellsSpec)

/-- 'seepagelaw11.FlatProgram', WHERE WHAT IT READS IS OF BULK AT MOST 1048576: true; the input reads as it did. -/
def flatProgramUptoRow : OpenClaim := { program := "ytbonamhinnhlnaagreatdoor", sum := "30a74f00fc6e7d376f44d465f5913d5490fa688e872e3ab4904d050540411381", func := "seepage/seepagelaw11.FlatProgram", spec := "flatProgram", unfollowed := true, recurses := true, named := ["seepage/opcode.cycles"], apart := false, laid := [("seepage/opcode.cycles", laid_seepage_opcode_cycles)], narrowed := true }
def FlatProgramUptoSaid : Prop := flatProgramUptoRow.holds Tryz.pinned (OpenSpec.upto flatProgramSpec)

/-- 'seepagelaw11.FlatLoop', WHERE WHAT IT READS IS OF BULK AT MOST 1048576: true; the input reads as it did. -/
def flatLoopUptoRow : OpenClaim := { program := "ytbonamhinnhlnaagreatdoor", sum := "30a74f00fc6e7d376f44d465f5913d5490fa688e872e3ab4904d050540411381", func := "seepage/seepagelaw11.FlatLoop", spec := "flatLoop", unfollowed := true, recurses := true, named := ["seepage/opcode.cycles"], apart := false, laid := [("seepage/opcode.cycles", laid_seepage_opcode_cycles)], narrowed := true }
def FlatLoopUptoSaid : Prop := flatLoopUptoRow.holds Tryz.pinned (OpenSpec.upto flatLoopSpec)

end Rows
end Go.Proofs.YtbonamhinnhlnaaGreatDoor
