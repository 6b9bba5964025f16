/-
  DERIVED. GIVEN WITH THE SEED: THE CARDS: each row of YtbonamhinnhlnaaDoorRows.lean that lists a variable, with what it lists TIED to the program's text (the seventh form; the later family's looks); each row that meets fmt, with fmt's text TOLD by the authors' own Lean function (tested against real Go, not proved from fmt's source: count such statements apart). THE CARD IS WHAT COUNTS. Prove the row's statement (the work); the ties are given (YtbonamhinnhlnaaDoorTie.lean); close each card by the builder's one call (the guide's Derived/Test/ToyasCard.lean, 'card_holds'). Laid BY PROGRAM, IN A SANDBOX (cutbox-door.mjs). By AI agents, Wed Nov 11 2026. No macro, syntax, notation, axiom, sorry.
-/
import Derived.Test.YtbonamhinnhlnaaDoorRows
import GoSem.ClaimSeven
namespace Go.Proofs.YtbonamhinnhlnaaDoor
namespace Rows

/-- THE TIED CARD OF 'seepagelaw13.VramTells'. -/
def vramTellsCard : Claim7 := { stood := { row := vramTellsRow, standIns := [], harness := (true, "c92857acd7837066b962a424a2c7d7ec5a0b68755e7fb871b1285926f1dcf487"), looks := false }, kinds := [], alts := [], laidByText := true, laidKinds := [.data], laidTests := true, laidLooks := .later }
def VramTellsCardSaid : Prop := Claim7.holds Tryd.pinned (.plain (OpenSpec.ofChange vramTellsSpec)) vramTellsCard

/-- THE TIED CARD OF 'seepagelaw13.VramWithin'. -/
def vramWithinCard : Claim7 := { stood := { row := vramWithinRow, standIns := [], harness := (true, "c92857acd7837066b962a424a2c7d7ec5a0b68755e7fb871b1285926f1dcf487"), looks := false }, kinds := [], alts := [], laidByText := true, laidKinds := [.data], laidTests := true, laidLooks := .later }
def VramWithinCardSaid : Prop := Claim7.holds Tryd.pinned (.plain (OpenSpec.ofChange vramWithinSpec)) vramWithinCard

/-- THE TIED CARD OF 'seepagelaw13.VramMirrors'. -/
def vramMirrorsCard : Claim7 := { stood := { row := vramMirrorsRow, standIns := [], harness := (true, "c92857acd7837066b962a424a2c7d7ec5a0b68755e7fb871b1285926f1dcf487"), looks := false }, kinds := [], alts := [], laidByText := true, laidKinds := [.data], laidTests := true, laidLooks := .later }
def VramMirrorsCardSaid : Prop := Claim7.holds Tryd.pinned (.plain (OpenSpec.ofChange vramMirrorsSpec)) vramMirrorsCard

/-- THE SECOND FORM's CARD OF 'seepagelaw13.VramTells'. -/
def vramTellsUptoCard : Claim7 := { stood := { row := vramTellsUptoRow, standIns := [], harness := (true, "c92857acd7837066b962a424a2c7d7ec5a0b68755e7fb871b1285926f1dcf487"), looks := false }, kinds := [], alts := [], laidByText := true, laidKinds := [.data], laidTests := true, laidLooks := .later }
def VramTellsUptoCardSaid : Prop := Claim7.holds Tryd.pinned (.plain (OpenSpec.upto vramTellsSpec)) vramTellsUptoCard

/-- THE SECOND FORM's CARD OF 'seepagelaw13.VramWithin'. -/
def vramWithinUptoCard : Claim7 := { stood := { row := vramWithinUptoRow, standIns := [], harness := (true, "c92857acd7837066b962a424a2c7d7ec5a0b68755e7fb871b1285926f1dcf487"), looks := false }, kinds := [], alts := [], laidByText := true, laidKinds := [.data], laidTests := true, laidLooks := .later }
def VramWithinUptoCardSaid : Prop := Claim7.holds Tryd.pinned (.plain (OpenSpec.upto vramWithinSpec)) vramWithinUptoCard

/-- THE SECOND FORM's CARD OF 'seepagelaw13.VramMirrors'. -/
def vramMirrorsUptoCard : Claim7 := { stood := { row := vramMirrorsUptoRow, standIns := [], harness := (true, "c92857acd7837066b962a424a2c7d7ec5a0b68755e7fb871b1285926f1dcf487"), looks := false }, kinds := [], alts := [], laidByText := true, laidKinds := [.data], laidTests := true, laidLooks := .later }
def VramMirrorsUptoCardSaid : Prop := Claim7.holds Tryd.pinned (.plain (OpenSpec.upto vramMirrorsSpec)) vramMirrorsUptoCard
end Rows
end Go.Proofs.YtbonamhinnhlnaaDoor
