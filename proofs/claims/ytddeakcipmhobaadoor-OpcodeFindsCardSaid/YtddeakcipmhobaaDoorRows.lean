/-
  NARROWER THAN 'FOR EVERY INPUT', by the rows' own cells (each row's printed sentence says how): OpcodeTable: laid · OpcodeFinds: laid · OpcodeCounts: laid · OpcodeCycles: laid · OpcodeUses: laid.
  DERIVED. THE GIVEN ROWS OF THIS SEAT. 5 by the template 'for every input the law returns true; each argument reads behind the call as it read before'; 0 by the template 'total and deterministic' (their statements: YtddeakcipmhobaaDoorTotals.lean).
  GIVEN WITH THE SEED: the statements are not yours to turn. If you find one false, say at which input.
  Laid BY PROGRAM, IN A SANDBOX (cutbox-rows.mjs): the forced cells as the released guide's own fill.sh prints them over the translation 80bfd9003b1682d2… (all of the seat's roots in one cut). By AI agents, Wed Nov 11 2026. No macro, syntax, notation, axiom, sorry.
-/
import Derived.Test.YtddeakcipmhobaaDoorChecked
import GoSem.Claim
import GoSem.ClaimJoined
import GoSem.ClaimMapViews
import Derived.JoinedTies
import Derived.KernelRfl
namespace Go.Proofs.YtddeakcipmhobaaDoor
/- THE CELL 'sum', in the pinned program and in every row, IS THE sha256 OF THE DUMP (.gsa) THAT YtddeakcipmhobaaDoorProg.lean LOADS. Nothing in Lean hashes anything: it is a label: what it is worth is what the hold of that sum in a sandbox is worth. -/
noncomputable def Tryd.pinned : Pinned := { name := "ytddeakcipmhobaadoor", sum := "80bfd9003b1682d271a087d47c7b1bc0457eb8e0ff28ae02e8fb7447c0bd37b3", checked := Tryd.checked }
namespace Rows
def none {H : Type} : Left H := { results := [], args := [] }

/- WHAT THE LISTED PACKAGE-LEVEL VARIABLES READ AS WHEN THE CALL BEGINS. Each datum BY PROGRAM (the guide's laid-datum.mjs) off the statement by which the dump's own 'gosem.cut.vars' lays the variable. In a bare row this is a premise. The card (YtddeakcipmhobaaDoorCards.lean) ties it to the program's text. -/
def laid_seepage_opcode_cycles {H : Type} : DataW H := .agg [.agg [.lit (.int .u8 2), .lit (.int .u8 0), .lit (.int .u8 0), .lit (.int .u8 0)], .agg [.lit (.int .u8 2), .lit (.int .u8 0), .lit (.int .u8 0), .lit (.int .u8 0)], .agg [.lit (.int .u8 0), .lit (.int .u8 2), .lit (.int .u8 0), .lit (.int .u8 0)], .agg [.lit (.int .u8 0), .lit (.int .u8 3), .lit (.int .u8 3), .lit (.int .u8 5)], .agg [.lit (.int .u8 0), .lit (.int .u8 4), .lit (.int .u8 4), .lit (.int .u8 6)], .agg [.lit (.int .u8 0), .lit (.int .u8 4), .lit (.int .u8 4), .lit (.int .u8 6)], .agg [.lit (.int .u8 0), .lit (.int .u8 4), .lit (.int .u8 4), .lit (.int .u8 6)], .agg [.lit (.int .u8 0), .lit (.int .u8 4), .lit (.int .u8 5), .lit (.int .u8 7)], .agg [.lit (.int .u8 0), .lit (.int .u8 4), .lit (.int .u8 5), .lit (.int .u8 7)], .agg [.lit (.int .u8 0), .lit (.int .u8 6), .lit (.int .u8 6), .lit (.int .u8 8)], .agg [.lit (.int .u8 0), .lit (.int .u8 5), .lit (.int .u8 6), .lit (.int .u8 8)], .agg [.lit (.int .u8 2), .lit (.int .u8 0), .lit (.int .u8 0), .lit (.int .u8 0)], .agg [.lit (.int .u8 5), .lit (.int .u8 0), .lit (.int .u8 0), .lit (.int .u8 0)], .agg [.lit (.int .u8 3), .lit (.int .u8 0), .lit (.int .u8 0), .lit (.int .u8 0)], .agg [.lit (.int .u8 6), .lit (.int .u8 0), .lit (.int .u8 0), .lit (.int .u8 0)], .agg [.lit (.int .u8 6), .lit (.int .u8 0), .lit (.int .u8 0), .lit (.int .u8 0)], .agg [.lit (.int .u8 6), .lit (.int .u8 0), .lit (.int .u8 0), .lit (.int .u8 0)], .agg [.lit (.int .u8 7), .lit (.int .u8 0), .lit (.int .u8 0), .lit (.int .u8 0)], .agg [.lit (.int .u8 3), .lit (.int .u8 0), .lit (.int .u8 0), .lit (.int .u8 0)], .agg [.lit (.int .u8 4), .lit (.int .u8 0), .lit (.int .u8 0), .lit (.int .u8 0)], .agg [.lit (.int .u8 0), .lit (.int .u8 0), .lit (.int .u8 0), .lit (.int .u8 0)]]

/-- 'seepagelaw09.OpcodeTable': WHATEVER THE INPUT: true; the input reads as it did. -/
def opcodeTableSpec : ChangeSpec := { name := "opcodeTable", fn := fun _ => fun
  | [d] => { results := [.lit (.bool true)], args := [d] }
  | _ => none }
def opcodeTableRow : OpenClaim := { program := "ytddeakcipmhobaadoor", sum := "80bfd9003b1682d271a087d47c7b1bc0457eb8e0ff28ae02e8fb7447c0bd37b3", func := "seepage/seepagelaw09.OpcodeTable", spec := "opcodeTable", named := ["seepage/opcode.cycles"], apart := false, laid := [("seepage/opcode.cycles", laid_seepage_opcode_cycles)] }
def OpcodeTableSaid : Prop := opcodeTableRow.holds Tryd.pinned (OpenSpec.ofChange opcodeTableSpec)

/-- ITS FALSE NEIGHBOUR: 'it returns false'. Refute it at one input. -/
def opcodeTableWrong : ChangeSpec := { name := "opcodeTable", fn := fun _ => fun
  | [d] => { results := [.lit (.bool false)], args := [d] }
  | _ => none }
def OpcodeTableWrongFalsely : Prop := opcodeTableRow.holds Tryd.pinned (OpenSpec.ofChange opcodeTableWrong)

/-- 'seepagelaw09.OpcodeFinds': WHATEVER THE INPUT: true; the input reads as it did. -/
def opcodeFindsSpec : ChangeSpec := { name := "opcodeFinds", fn := fun _ => fun
  | [d1, d2] => { results := [.lit (.bool true)], args := [d1, d2] }
  | _ => none }
def opcodeFindsRow : OpenClaim := { program := "ytddeakcipmhobaadoor", sum := "80bfd9003b1682d271a087d47c7b1bc0457eb8e0ff28ae02e8fb7447c0bd37b3", func := "seepage/seepagelaw09.OpcodeFinds", spec := "opcodeFinds", named := ["seepage/opcode.cycles"], apart := false, laid := [("seepage/opcode.cycles", laid_seepage_opcode_cycles)] }
def OpcodeFindsSaid : Prop := opcodeFindsRow.holds Tryd.pinned (OpenSpec.ofChange opcodeFindsSpec)

/-- ITS FALSE NEIGHBOUR: 'it returns false'. Refute it at one input. -/
def opcodeFindsWrong : ChangeSpec := { name := "opcodeFinds", fn := fun _ => fun
  | [d1, d2] => { results := [.lit (.bool false)], args := [d1, d2] }
  | _ => none }
def OpcodeFindsWrongFalsely : Prop := opcodeFindsRow.holds Tryd.pinned (OpenSpec.ofChange opcodeFindsWrong)

/-- 'seepagelaw09.OpcodeCounts': WHATEVER THE INPUT: true; the input reads as it did. -/
def opcodeCountsSpec : ChangeSpec := { name := "opcodeCounts", fn := fun _ => fun
  | [d] => { results := [.lit (.bool true)], args := [d] }
  | _ => none }
def opcodeCountsRow : OpenClaim := { program := "ytddeakcipmhobaadoor", sum := "80bfd9003b1682d271a087d47c7b1bc0457eb8e0ff28ae02e8fb7447c0bd37b3", func := "seepage/seepagelaw09.OpcodeCounts", spec := "opcodeCounts", named := ["seepage/opcode.cycles"], apart := false, laid := [("seepage/opcode.cycles", laid_seepage_opcode_cycles)] }
def OpcodeCountsSaid : Prop := opcodeCountsRow.holds Tryd.pinned (OpenSpec.ofChange opcodeCountsSpec)

/-- ITS FALSE NEIGHBOUR: 'it returns false'. Refute it at one input. -/
def opcodeCountsWrong : ChangeSpec := { name := "opcodeCounts", fn := fun _ => fun
  | [d] => { results := [.lit (.bool false)], args := [d] }
  | _ => none }
def OpcodeCountsWrongFalsely : Prop := opcodeCountsRow.holds Tryd.pinned (OpenSpec.ofChange opcodeCountsWrong)

/-- 'seepagelaw09.OpcodeCycles': WHATEVER THE INPUT: true; the input reads as it did. -/
def opcodeCyclesSpec : ChangeSpec := { name := "opcodeCycles", fn := fun _ => fun
  | [d1, d2] => { results := [.lit (.bool true)], args := [d1, d2] }
  | _ => none }
def opcodeCyclesRow : OpenClaim := { program := "ytddeakcipmhobaadoor", sum := "80bfd9003b1682d271a087d47c7b1bc0457eb8e0ff28ae02e8fb7447c0bd37b3", func := "seepage/seepagelaw09.OpcodeCycles", spec := "opcodeCycles", named := ["seepage/opcode.cycles"], apart := false, laid := [("seepage/opcode.cycles", laid_seepage_opcode_cycles)] }
def OpcodeCyclesSaid : Prop := opcodeCyclesRow.holds Tryd.pinned (OpenSpec.ofChange opcodeCyclesSpec)

/-- ITS FALSE NEIGHBOUR: 'it returns false'. Refute it at one input. -/
def opcodeCyclesWrong : ChangeSpec := { name := "opcodeCycles", fn := fun _ => fun
  | [d1, d2] => { results := [.lit (.bool false)], args := [d1, d2] }
  | _ => none }
def OpcodeCyclesWrongFalsely : Prop := opcodeCyclesRow.holds Tryd.pinned (OpenSpec.ofChange opcodeCyclesWrong)

/-- 'seepagelaw09.OpcodeUses': WHATEVER THE INPUT: true; the input reads as it did. -/
def opcodeUsesSpec : ChangeSpec := { name := "opcodeUses", fn := fun _ => fun
  | [d] => { results := [.lit (.bool true)], args := [d] }
  | _ => none }
def opcodeUsesRow : OpenClaim := { program := "ytddeakcipmhobaadoor", sum := "80bfd9003b1682d271a087d47c7b1bc0457eb8e0ff28ae02e8fb7447c0bd37b3", func := "seepage/seepagelaw09.OpcodeUses", spec := "opcodeUses", named := ["seepage/opcode.cycles"], apart := false, laid := [("seepage/opcode.cycles", laid_seepage_opcode_cycles)] }
def OpcodeUsesSaid : Prop := opcodeUsesRow.holds Tryd.pinned (OpenSpec.ofChange opcodeUsesSpec)

/-- ITS FALSE NEIGHBOUR: 'it returns false'. Refute it at one input. -/
def opcodeUsesWrong : ChangeSpec := { name := "opcodeUses", fn := fun _ => fun
  | [d] => { results := [.lit (.bool false)], args := [d] }
  | _ => none }
def OpcodeUsesWrongFalsely : Prop := opcodeUsesRow.holds Tryd.pinned (OpenSpec.ofChange opcodeUsesWrong)

/- THE SECOND FORM. 'bulk': how many values and letters a reading holds, each counted each time it is reached (what is shared counts as often as it is met; a slice's spare places count too). A statement '..UptoSaid' is the law's where the arguments, and the package variables that the reading takes, are together of bulk at most 1048576: NARROWER than '..Said'. Prove '..Said' where nothing that the law and all that it calls make is longer than what came in: it says more and counts as full. Else prove '..UptoSaid'. A law counts once. -/
mutual
def uptoBulk {H : Type} : DataW H → Nat
  | .lit (.string bytes) => bytes.length + 1
  | .lit _ => 1
  | .nil => 1
  | .ptr d => uptoBulk d + 1
  | .slice elems spare => uptoBulkAll elems + uptoBulkAll spare + 1
  | .agg parts => uptoBulkAll parts + 1
  | .iface _ d => uptoBulk d + 1
  | .map entries => uptoBulkEntries entries + 1
  | .held _ => 1
def uptoBulkAll {H : Type} : List (DataW H) → Nat
  | [] => 0
  | d :: r => uptoBulk d + uptoBulkAll r
def uptoBulkEntries {H : Type} : List (Lit × DataW H) → Nat
  | [] => 0
  | x :: r => uptoBulkEntry x + uptoBulkEntries r
def uptoBulkEntry {H : Type} : Lit × DataW H → Nat
  | (.string bytes, d) => bytes.length + uptoBulk d + 1
  | (_, d) => uptoBulk d + 1
 end
def uptoSmall : (H : Type) → List (DataW H) → Bool := fun _ ds => decide (uptoBulkAll ds ≤ 1048576)
def OpenSpec.upto (s : _root_.Go.ChangeSpec) : _root_.Go.OpenSpec := { _root_.Go.OpenSpec.ofChange s with cond := some uptoSmall }

/-- 'seepagelaw09.OpcodeTable', WHERE WHAT IT READS IS OF BULK AT MOST 1048576: true; the input reads as it did. -/
def opcodeTableUptoRow : OpenClaim := { program := "ytddeakcipmhobaadoor", sum := "80bfd9003b1682d271a087d47c7b1bc0457eb8e0ff28ae02e8fb7447c0bd37b3", func := "seepage/seepagelaw09.OpcodeTable", spec := "opcodeTable", named := ["seepage/opcode.cycles"], apart := false, laid := [("seepage/opcode.cycles", laid_seepage_opcode_cycles)], narrowed := true }
def OpcodeTableUptoSaid : Prop := opcodeTableUptoRow.holds Tryd.pinned (OpenSpec.upto opcodeTableSpec)

/-- 'seepagelaw09.OpcodeFinds', WHERE WHAT IT READS IS OF BULK AT MOST 1048576: true; the input reads as it did. -/
def opcodeFindsUptoRow : OpenClaim := { program := "ytddeakcipmhobaadoor", sum := "80bfd9003b1682d271a087d47c7b1bc0457eb8e0ff28ae02e8fb7447c0bd37b3", func := "seepage/seepagelaw09.OpcodeFinds", spec := "opcodeFinds", named := ["seepage/opcode.cycles"], apart := false, laid := [("seepage/opcode.cycles", laid_seepage_opcode_cycles)], narrowed := true }
def OpcodeFindsUptoSaid : Prop := opcodeFindsUptoRow.holds Tryd.pinned (OpenSpec.upto opcodeFindsSpec)

/-- 'seepagelaw09.OpcodeCounts', WHERE WHAT IT READS IS OF BULK AT MOST 1048576: true; the input reads as it did. -/
def opcodeCountsUptoRow : OpenClaim := { program := "ytddeakcipmhobaadoor", sum := "80bfd9003b1682d271a087d47c7b1bc0457eb8e0ff28ae02e8fb7447c0bd37b3", func := "seepage/seepagelaw09.OpcodeCounts", spec := "opcodeCounts", named := ["seepage/opcode.cycles"], apart := false, laid := [("seepage/opcode.cycles", laid_seepage_opcode_cycles)], narrowed := true }
def OpcodeCountsUptoSaid : Prop := opcodeCountsUptoRow.holds Tryd.pinned (OpenSpec.upto opcodeCountsSpec)

/-- 'seepagelaw09.OpcodeCycles', WHERE WHAT IT READS IS OF BULK AT MOST 1048576: true; the input reads as it did. -/
def opcodeCyclesUptoRow : OpenClaim := { program := "ytddeakcipmhobaadoor", sum := "80bfd9003b1682d271a087d47c7b1bc0457eb8e0ff28ae02e8fb7447c0bd37b3", func := "seepage/seepagelaw09.OpcodeCycles", spec := "opcodeCycles", named := ["seepage/opcode.cycles"], apart := false, laid := [("seepage/opcode.cycles", laid_seepage_opcode_cycles)], narrowed := true }
def OpcodeCyclesUptoSaid : Prop := opcodeCyclesUptoRow.holds Tryd.pinned (OpenSpec.upto opcodeCyclesSpec)

/-- 'seepagelaw09.OpcodeUses', WHERE WHAT IT READS IS OF BULK AT MOST 1048576: true; the input reads as it did. -/
def opcodeUsesUptoRow : OpenClaim := { program := "ytddeakcipmhobaadoor", sum := "80bfd9003b1682d271a087d47c7b1bc0457eb8e0ff28ae02e8fb7447c0bd37b3", func := "seepage/seepagelaw09.OpcodeUses", spec := "opcodeUses", named := ["seepage/opcode.cycles"], apart := false, laid := [("seepage/opcode.cycles", laid_seepage_opcode_cycles)], narrowed := true }
def OpcodeUsesUptoSaid : Prop := opcodeUsesUptoRow.holds Tryd.pinned (OpenSpec.upto opcodeUsesSpec)

end Rows
end Go.Proofs.YtddeakcipmhobaaDoor
