/-
  DERIVED. GIVEN WITH THE SEED: THE CARDS: each row of YtbonamhinnhlnaaGreatDoorRows.lean that lists a variable, with what it lists TIED to the program's text (the seventh form; the later family's looks); each row that meets fmt, with fmt's text TOLD by the authors' own Lean function (tested against real Go, not proved from fmt's source: count such statements apart). THE CARD IS WHAT COUNTS. Prove the row's statement (the work); the ties are given (YtbonamhinnhlnaaGreatDoorTie.lean); close each card by the builder's one call (the guide's Derived/Test/ToyasCard.lean, 'card_holds'). Laid BY PROGRAM, IN A SANDBOX (cutbox-door.mjs). By AI agents, Wed Nov 11 2026. No macro, syntax, notation, axiom, sorry.
-/
import Derived.Test.YtbonamhinnhlnaaGreatDoorRows
import GoSem.ClaimSeven
namespace Go.Proofs.YtbonamhinnhlnaaGreatDoor
namespace Rows

/-- THE TIED CARD OF 'seepagelaw11.FlatTells'. -/
def flatTellsCard : Claim7 := { stood := { row := flatTellsRow, standIns := [], harness := (true, "4bd264f354195a12b6e03dd9117696c8a837a018f2db026a2ca25babaf442ff1"), looks := false }, kinds := [], alts := [], laidByText := true, laidKinds := [.data], laidTests := true, laidLooks := .later }
def FlatTellsCardSaid : Prop := Claim7.holds Tryz.pinned (.plain (OpenSpec.ofChange flatTellsSpec)) flatTellsCard

/-- THE TIED CARD OF 'seepagelaw11.FlatProgram'. -/
def flatProgramCard : Claim7 := { stood := { row := flatProgramRow, standIns := [], harness := (true, "4bd264f354195a12b6e03dd9117696c8a837a018f2db026a2ca25babaf442ff1"), looks := false }, kinds := [], alts := [], laidByText := true, laidKinds := [.data], laidTests := true, laidLooks := .later }
def FlatProgramCardSaid : Prop := Claim7.holds Tryz.pinned (.plain (OpenSpec.ofChange flatProgramSpec)) flatProgramCard

/-- THE TIED CARD OF 'seepagelaw11.FlatLoop'. -/
def flatLoopCard : Claim7 := { stood := { row := flatLoopRow, standIns := [], harness := (true, "4bd264f354195a12b6e03dd9117696c8a837a018f2db026a2ca25babaf442ff1"), looks := false }, kinds := [], alts := [], laidByText := true, laidKinds := [.data], laidTests := true, laidLooks := .later }
def FlatLoopCardSaid : Prop := Claim7.holds Tryz.pinned (.plain (OpenSpec.ofChange flatLoopSpec)) flatLoopCard

/-- THE SECOND FORM's CARD OF 'seepagelaw11.FlatTells'. -/
def flatTellsUptoCard : Claim7 := { stood := { row := flatTellsUptoRow, standIns := [], harness := (true, "4bd264f354195a12b6e03dd9117696c8a837a018f2db026a2ca25babaf442ff1"), looks := false }, kinds := [], alts := [], laidByText := true, laidKinds := [.data], laidTests := true, laidLooks := .later }
def FlatTellsUptoCardSaid : Prop := Claim7.holds Tryz.pinned (.plain (OpenSpec.upto flatTellsSpec)) flatTellsUptoCard

/-- THE SECOND FORM's CARD OF 'seepagelaw11.FlatProgram'. -/
def flatProgramUptoCard : Claim7 := { stood := { row := flatProgramUptoRow, standIns := [], harness := (true, "4bd264f354195a12b6e03dd9117696c8a837a018f2db026a2ca25babaf442ff1"), looks := false }, kinds := [], alts := [], laidByText := true, laidKinds := [.data], laidTests := true, laidLooks := .later }
def FlatProgramUptoCardSaid : Prop := Claim7.holds Tryz.pinned (.plain (OpenSpec.upto flatProgramSpec)) flatProgramUptoCard

/-- THE SECOND FORM's CARD OF 'seepagelaw11.FlatLoop'. -/
def flatLoopUptoCard : Claim7 := { stood := { row := flatLoopUptoRow, standIns := [], harness := (true, "4bd264f354195a12b6e03dd9117696c8a837a018f2db026a2ca25babaf442ff1"), looks := false }, kinds := [], alts := [], laidByText := true, laidKinds := [.data], laidTests := true, laidLooks := .later }
def FlatLoopUptoCardSaid : Prop := Claim7.holds Tryz.pinned (.plain (OpenSpec.upto flatLoopSpec)) flatLoopUptoCard
end Rows
end Go.Proofs.YtbonamhinnhlnaaGreatDoor
