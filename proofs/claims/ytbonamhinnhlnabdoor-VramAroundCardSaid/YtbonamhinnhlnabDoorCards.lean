/-
  DERIVED. GIVEN WITH THE SEED: THE CARDS: each row of YtbonamhinnhlnabDoorRows.lean that lists a variable, with what it lists TIED to the program's text (the seventh form; the later family's looks); each row that meets fmt, with fmt's text TOLD by the authors' own Lean function (tested against real Go, not proved from fmt's source: count such statements apart). THE CARD IS WHAT COUNTS. Prove the row's statement (the work); the ties are given (YtbonamhinnhlnabDoorTie.lean); close each card by the builder's one call (the guide's Derived/Test/ToyasCard.lean, 'card_holds'). Laid BY PROGRAM, IN A SANDBOX (cutbox-door.mjs). By AI agents, Wed Nov 11 2026. No macro, syntax, notation, axiom, sorry.
-/
import Derived.Test.YtbonamhinnhlnabDoorRows
import GoSem.ClaimSeven
namespace Go.Proofs.YtbonamhinnhlnabDoor
namespace Rows

/-- THE TIED CARD OF 'seepagelaw13.VramAround'. -/
def vramAroundCard : Claim7 := { stood := { row := vramAroundRow, standIns := [], harness := (true, "56cd142fd4c7f0c1b4cd0655f9dac682cfb207d62637861e0fecd2c2e9760ed7"), looks := false }, kinds := [], alts := [], laidByText := true, laidKinds := [.data], laidTests := true, laidLooks := .later }
def VramAroundCardSaid : Prop := Claim7.holds Tryd.pinned (.plain (OpenSpec.ofChange vramAroundSpec)) vramAroundCard

/-- THE TIED CARD OF 'seepagelaw13.VramColours'. -/
def vramColoursCard : Claim7 := { stood := { row := vramColoursRow, standIns := [], harness := (true, "56cd142fd4c7f0c1b4cd0655f9dac682cfb207d62637861e0fecd2c2e9760ed7"), looks := false }, kinds := [], alts := [], laidByText := true, laidKinds := [.data], laidTests := true, laidLooks := .later }
def VramColoursCardSaid : Prop := Claim7.holds Tryd.pinned (.plain (OpenSpec.ofChange vramColoursSpec)) vramColoursCard

/-- THE SECOND FORM's CARD OF 'seepagelaw13.VramAround'. -/
def vramAroundUptoCard : Claim7 := { stood := { row := vramAroundUptoRow, standIns := [], harness := (true, "56cd142fd4c7f0c1b4cd0655f9dac682cfb207d62637861e0fecd2c2e9760ed7"), looks := false }, kinds := [], alts := [], laidByText := true, laidKinds := [.data], laidTests := true, laidLooks := .later }
def VramAroundUptoCardSaid : Prop := Claim7.holds Tryd.pinned (.plain (OpenSpec.upto vramAroundSpec)) vramAroundUptoCard

/-- THE SECOND FORM's CARD OF 'seepagelaw13.VramColours'. -/
def vramColoursUptoCard : Claim7 := { stood := { row := vramColoursUptoRow, standIns := [], harness := (true, "56cd142fd4c7f0c1b4cd0655f9dac682cfb207d62637861e0fecd2c2e9760ed7"), looks := false }, kinds := [], alts := [], laidByText := true, laidKinds := [.data], laidTests := true, laidLooks := .later }
def VramColoursUptoCardSaid : Prop := Claim7.holds Tryd.pinned (.plain (OpenSpec.upto vramColoursSpec)) vramColoursUptoCard
end Rows
end Go.Proofs.YtbonamhinnhlnabDoor
