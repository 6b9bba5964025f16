/-
  NARROWER THAN 'FOR EVERY INPUT', by the rows' own cells (each row's printed sentence says how): FlatParts: laid · FlatAlike: laid · FlatStays: laid.
  DERIVED. THE GIVEN ROWS OF THIS SEAT. 3 by the template 'for every input the law returns true; each argument reads behind the call as it read before'; 0 by the template 'total and deterministic' (their statements: YtcgnnbgknaamdaaGreatDoorTotals.lean).
  GIVEN WITH THE SEED: the statements are not yours to turn. If you find one false, say at which input.
  Laid BY PROGRAM, IN A SANDBOX (cutbox-rows.mjs): the forced cells as the released guide's own fill.sh prints them over the translation 111aa99ec49dfe9f… (all of the seat's roots in one cut). By AI agents, Wed Nov 11 2026. No macro, syntax, notation, axiom, sorry.
-/
import Derived.Test.YtcgnnbgknaamdaaGreatDoorChecked
import GoSem.Claim
import GoSem.ClaimJoined
import GoSem.ClaimMapViews
import Derived.JoinedTies
import Derived.KernelRfl
namespace Go.Proofs.YtcgnnbgknaamdaaGreatDoor
/- THE CELL 'sum', in the pinned program and in every row, IS THE sha256 OF THE DUMP (.gsa) THAT YtcgnnbgknaamdaaGreatDoorProg.lean LOADS. Nothing in Lean hashes anything: it is a label: what it is worth is what the hold of that sum in a sandbox is worth. -/
noncomputable def Tryz.pinned : Pinned := { name := "ytcgnnbgknaamdaagreatdoor", sum := "111aa99ec49dfe9f68673870c0642b8c6b155d2d502e2b7c61eb0d7456567a1a", checked := Tryz.checked }
namespace Rows
def none {H : Type} : Left H := { results := [], args := [] }

/- WHAT THE LISTED PACKAGE-LEVEL VARIABLES READ AS WHEN THE CALL BEGINS. Each datum BY PROGRAM (the guide's laid-datum.mjs) off the statement by which the dump's own 'gosem.cut.vars' lays the variable. In a bare row this is a premise. The card (YtcgnnbgknaamdaaGreatDoorCards.lean) ties it to the program's text. -/
def laid_seepage_opcode_cycles {H : Type} : DataW H := .agg [.agg [.lit (.int .u8 2), .lit (.int .u8 0), .lit (.int .u8 0), .lit (.int .u8 0)], .agg [.lit (.int .u8 2), .lit (.int .u8 0), .lit (.int .u8 0), .lit (.int .u8 0)], .agg [.lit (.int .u8 0), .lit (.int .u8 2), .lit (.int .u8 0), .lit (.int .u8 0)], .agg [.lit (.int .u8 0), .lit (.int .u8 3), .lit (.int .u8 3), .lit (.int .u8 5)], .agg [.lit (.int .u8 0), .lit (.int .u8 4), .lit (.int .u8 4), .lit (.int .u8 6)], .agg [.lit (.int .u8 0), .lit (.int .u8 4), .lit (.int .u8 4), .lit (.int .u8 6)], .agg [.lit (.int .u8 0), .lit (.int .u8 4), .lit (.int .u8 4), .lit (.int .u8 6)], .agg [.lit (.int .u8 0), .lit (.int .u8 4), .lit (.int .u8 5), .lit (.int .u8 7)], .agg [.lit (.int .u8 0), .lit (.int .u8 4), .lit (.int .u8 5), .lit (.int .u8 7)], .agg [.lit (.int .u8 0), .lit (.int .u8 6), .lit (.int .u8 6), .lit (.int .u8 8)], .agg [.lit (.int .u8 0), .lit (.int .u8 5), .lit (.int .u8 6), .lit (.int .u8 8)], .agg [.lit (.int .u8 2), .lit (.int .u8 0), .lit (.int .u8 0), .lit (.int .u8 0)], .agg [.lit (.int .u8 5), .lit (.int .u8 0), .lit (.int .u8 0), .lit (.int .u8 0)], .agg [.lit (.int .u8 3), .lit (.int .u8 0), .lit (.int .u8 0), .lit (.int .u8 0)], .agg [.lit (.int .u8 6), .lit (.int .u8 0), .lit (.int .u8 0), .lit (.int .u8 0)], .agg [.lit (.int .u8 6), .lit (.int .u8 0), .lit (.int .u8 0), .lit (.int .u8 0)], .agg [.lit (.int .u8 6), .lit (.int .u8 0), .lit (.int .u8 0), .lit (.int .u8 0)], .agg [.lit (.int .u8 7), .lit (.int .u8 0), .lit (.int .u8 0), .lit (.int .u8 0)], .agg [.lit (.int .u8 3), .lit (.int .u8 0), .lit (.int .u8 0), .lit (.int .u8 0)], .agg [.lit (.int .u8 4), .lit (.int .u8 0), .lit (.int .u8 0), .lit (.int .u8 0)], .agg [.lit (.int .u8 0), .lit (.int .u8 0), .lit (.int .u8 0), .lit (.int .u8 0)]]

/-- 'seepagelaw11.FlatParts': WHATEVER THE INPUT: true; the input reads as it did. -/
def flatPartsSpec : ChangeSpec := { name := "flatParts", fn := fun _ => fun
  | [d1, d2, d3] => { results := [.lit (.bool true)], args := [d1, d2, d3] }
  | _ => none }
def flatPartsRow : OpenClaim := { program := "ytcgnnbgknaamdaagreatdoor", sum := "111aa99ec49dfe9f68673870c0642b8c6b155d2d502e2b7c61eb0d7456567a1a", func := "seepage/seepagelaw11.FlatParts", spec := "flatParts", unfollowed := true, recurses := true, named := ["seepage/opcode.cycles"], apart := false, laid := [("seepage/opcode.cycles", laid_seepage_opcode_cycles)] }
def FlatPartsSaid : Prop := flatPartsRow.holds Tryz.pinned (OpenSpec.ofChange flatPartsSpec)

/-- ITS FALSE NEIGHBOUR: 'it returns false'. Refute it at one input. -/
def flatPartsWrong : ChangeSpec := { name := "flatParts", fn := fun _ => fun
  | [d1, d2, d3] => { results := [.lit (.bool false)], args := [d1, d2, d3] }
  | _ => none }
def FlatPartsWrongFalsely : Prop := flatPartsRow.holds Tryz.pinned (OpenSpec.ofChange flatPartsWrong)

/-- 'seepagelaw11.FlatAlike': WHATEVER THE INPUT: true; the input reads as it did. -/
def flatAlikeSpec : ChangeSpec := { name := "flatAlike", fn := fun _ => fun
  | [d1, d2, d3] => { results := [.lit (.bool true)], args := [d1, d2, d3] }
  | _ => none }
def flatAlikeRow : OpenClaim := { program := "ytcgnnbgknaamdaagreatdoor", sum := "111aa99ec49dfe9f68673870c0642b8c6b155d2d502e2b7c61eb0d7456567a1a", func := "seepage/seepagelaw11.FlatAlike", spec := "flatAlike", unfollowed := true, recurses := true, named := ["seepage/opcode.cycles"], apart := false, laid := [("seepage/opcode.cycles", laid_seepage_opcode_cycles)] }
def FlatAlikeSaid : Prop := flatAlikeRow.holds Tryz.pinned (OpenSpec.ofChange flatAlikeSpec)

/-- ITS FALSE NEIGHBOUR: 'it returns false'. Refute it at one input. -/
def flatAlikeWrong : ChangeSpec := { name := "flatAlike", fn := fun _ => fun
  | [d1, d2, d3] => { results := [.lit (.bool false)], args := [d1, d2, d3] }
  | _ => none }
def FlatAlikeWrongFalsely : Prop := flatAlikeRow.holds Tryz.pinned (OpenSpec.ofChange flatAlikeWrong)

/-- 'seepagelaw11.FlatStays': WHATEVER THE INPUT: true; the input reads as it did. -/
def flatStaysSpec : ChangeSpec := { name := "flatStays", fn := fun _ => fun
  | [d1, d2, d3] => { results := [.lit (.bool true)], args := [d1, d2, d3] }
  | _ => none }
def flatStaysRow : OpenClaim := { program := "ytcgnnbgknaamdaagreatdoor", sum := "111aa99ec49dfe9f68673870c0642b8c6b155d2d502e2b7c61eb0d7456567a1a", func := "seepage/seepagelaw11.FlatStays", spec := "flatStays", unfollowed := true, recurses := true, named := ["seepage/opcode.cycles"], apart := false, laid := [("seepage/opcode.cycles", laid_seepage_opcode_cycles)] }
def FlatStaysSaid : Prop := flatStaysRow.holds Tryz.pinned (OpenSpec.ofChange flatStaysSpec)

/-- ITS FALSE NEIGHBOUR: 'it returns false'. Refute it at one input. -/
def flatStaysWrong : ChangeSpec := { name := "flatStays", fn := fun _ => fun
  | [d1, d2, d3] => { results := [.lit (.bool false)], args := [d1, d2, d3] }
  | _ => none }
def FlatStaysWrongFalsely : Prop := flatStaysRow.holds Tryz.pinned (OpenSpec.ofChange flatStaysWrong)

/- THE SECOND FORM. 'bulk': how many values and letters a reading holds, each counted each time it is reached (what is shared counts as often as it is met; a slice's spare places count too). A statement '..UptoSaid' is the law's where the arguments, and the package variables that the reading takes, are together of bulk at most 1048576: NARROWER than '..Said'. Prove '..Said' where nothing that the law and all that it calls make is longer than what came in: it says more and counts as full. Else prove '..UptoSaid'. A law counts once. -/
mutual
def uptoBulk {H : Type} : DataW H → Nat
  | .lit (.string bytes) => bytes.length + 1
  | .lit _ => 1
  | .nil => 1
  | .ptr d => uptoBulk d + 1
  | .slice elems spare => uptoBulkAll elems + uptoBulkAll spare + 1
  | .agg parts => uptoBulkAll parts + 1
  | .iface _ d => uptoBulk d + 1
  | .map entries => uptoBulkEntries entries + 1
  | .held _ => 1
def uptoBulkAll {H : Type} : List (DataW H) → Nat
  | [] => 0
  | d :: r => uptoBulk d + uptoBulkAll r
def uptoBulkEntries {H : Type} : List (Lit × DataW H) → Nat
  | [] => 0
  | x :: r => uptoBulkEntry x + uptoBulkEntries r
def uptoBulkEntry {H : Type} : Lit × DataW H → Nat
  | (.string bytes, d) => bytes.length + uptoBulk d + 1
  | (_, d) => uptoBulk d + 1
 end
def uptoSmall : (H : Type) → List (DataW H) → Bool := fun _ ds => decide (uptoBulkAll ds ≤ 1048576)
def OpenSpec.upto (s : _root_.Go.ChangeSpec) : _root_.Go.OpenSpec := { _root_.Go.OpenSpec.ofChange s with cond := some uptoSmall }

/-- 'seepagelaw11.FlatParts', WHERE WHAT IT READS IS OF BULK AT MOST 1048576: true; the input reads as it did. -/
def flatPartsUptoRow : OpenClaim := { program := "ytcgnnbgknaamdaagreatdoor", sum := "111aa99ec49dfe9f68673870c0642b8c6b155d2d502e2b7c61eb0d7456567a1a", func := "seepage/seepagelaw11.FlatParts", spec := "flatParts", unfollowed := true, recurses := true, named := ["seepage/opcode.cycles"], apart := false, laid := [("seepage/opcode.cycles", laid_seepage_opcode_cycles)], narrowed := true }
def FlatPartsUptoSaid : Prop := flatPartsUptoRow.holds Tryz.pinned (OpenSpec.upto flatPartsSpec)

/-- 'seepagelaw11.FlatAlike', WHERE WHAT IT READS IS OF BULK AT MOST 1048576: true; the input reads as it did. -/
def flatAlikeUptoRow : OpenClaim := { program := "ytcgnnbgknaamdaagreatdoor", sum := "111aa99ec49dfe9f68673870c0642b8c6b155d2d502e2b7c61eb0d7456567a1a", func := "seepage/seepagelaw11.FlatAlike", spec := "flatAlike", unfollowed := true, recurses := true, named := ["seepage/opcode.cycles"], apart := false, laid := [("seepage/opcode.cycles", laid_seepage_opcode_cycles)], narrowed := true }
def FlatAlikeUptoSaid : Prop := flatAlikeUptoRow.holds Tryz.pinned (OpenSpec.upto flatAlikeSpec)

/-- 'seepagelaw11.FlatStays', WHERE WHAT IT READS IS OF BULK AT MOST 1048576: true; the input reads as it did. -/
def flatStaysUptoRow : OpenClaim := { program := "ytcgnnbgknaamdaagreatdoor", sum := "111aa99ec49dfe9f68673870c0642b8c6b155d2d502e2b7c61eb0d7456567a1a", func := "seepage/seepagelaw11.FlatStays", spec := "flatStays", unfollowed := true, recurses := true, named := ["seepage/opcode.cycles"], apart := false, laid := [("seepage/opcode.cycles", laid_seepage_opcode_cycles)], narrowed := true }
def FlatStaysUptoSaid : Prop := flatStaysUptoRow.holds Tryz.pinned (OpenSpec.upto flatStaysSpec)

end Rows
end Go.Proofs.YtcgnnbgknaamdaaGreatDoor
