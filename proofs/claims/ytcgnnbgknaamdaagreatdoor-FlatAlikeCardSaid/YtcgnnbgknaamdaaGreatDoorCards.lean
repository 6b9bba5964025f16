/-
  DERIVED. GIVEN WITH THE SEED: THE CARDS: each row of YtcgnnbgknaamdaaGreatDoorRows.lean that lists a variable, with what it lists TIED to the program's text (the seventh form; the later family's looks); each row that meets fmt, with fmt's text TOLD by the authors' own Lean function (tested against real Go, not proved from fmt's source: count such statements apart). THE CARD IS WHAT COUNTS. Prove the row's statement (the work); the ties are given (YtcgnnbgknaamdaaGreatDoorTie.lean); close each card by the builder's one call (the guide's Derived/Test/ToyasCard.lean, 'card_holds'). Laid BY PROGRAM, IN A SANDBOX (cutbox-door.mjs). By AI agents, Wed Nov 11 2026. No macro, syntax, notation, axiom, sorry.
-/
import Derived.Test.YtcgnnbgknaamdaaGreatDoorRows
import GoSem.ClaimSeven
namespace Go.Proofs.YtcgnnbgknaamdaaGreatDoor
namespace Rows

/-- THE TIED CARD OF 'seepagelaw11.FlatParts'. -/
def flatPartsCard : Claim7 := { stood := { row := flatPartsRow, standIns := [], harness := (true, "b82aa427d1d8f3abc4c8f501b0385133e2ef80bb7bdddc87f5f54f924d4f1404"), looks := false }, kinds := [], alts := [], laidByText := true, laidKinds := [.data], laidTests := true, laidLooks := .later }
def FlatPartsCardSaid : Prop := Claim7.holds Tryz.pinned (.plain (OpenSpec.ofChange flatPartsSpec)) flatPartsCard

/-- THE TIED CARD OF 'seepagelaw11.FlatAlike'. -/
def flatAlikeCard : Claim7 := { stood := { row := flatAlikeRow, standIns := [], harness := (true, "b82aa427d1d8f3abc4c8f501b0385133e2ef80bb7bdddc87f5f54f924d4f1404"), looks := false }, kinds := [], alts := [], laidByText := true, laidKinds := [.data], laidTests := true, laidLooks := .later }
def FlatAlikeCardSaid : Prop := Claim7.holds Tryz.pinned (.plain (OpenSpec.ofChange flatAlikeSpec)) flatAlikeCard

/-- THE TIED CARD OF 'seepagelaw11.FlatStays'. -/
def flatStaysCard : Claim7 := { stood := { row := flatStaysRow, standIns := [], harness := (true, "b82aa427d1d8f3abc4c8f501b0385133e2ef80bb7bdddc87f5f54f924d4f1404"), looks := false }, kinds := [], alts := [], laidByText := true, laidKinds := [.data], laidTests := true, laidLooks := .later }
def FlatStaysCardSaid : Prop := Claim7.holds Tryz.pinned (.plain (OpenSpec.ofChange flatStaysSpec)) flatStaysCard

/-- THE SECOND FORM's CARD OF 'seepagelaw11.FlatParts'. -/
def flatPartsUptoCard : Claim7 := { stood := { row := flatPartsUptoRow, standIns := [], harness := (true, "b82aa427d1d8f3abc4c8f501b0385133e2ef80bb7bdddc87f5f54f924d4f1404"), looks := false }, kinds := [], alts := [], laidByText := true, laidKinds := [.data], laidTests := true, laidLooks := .later }
def FlatPartsUptoCardSaid : Prop := Claim7.holds Tryz.pinned (.plain (OpenSpec.upto flatPartsSpec)) flatPartsUptoCard

/-- THE SECOND FORM's CARD OF 'seepagelaw11.FlatAlike'. -/
def flatAlikeUptoCard : Claim7 := { stood := { row := flatAlikeUptoRow, standIns := [], harness := (true, "b82aa427d1d8f3abc4c8f501b0385133e2ef80bb7bdddc87f5f54f924d4f1404"), looks := false }, kinds := [], alts := [], laidByText := true, laidKinds := [.data], laidTests := true, laidLooks := .later }
def FlatAlikeUptoCardSaid : Prop := Claim7.holds Tryz.pinned (.plain (OpenSpec.upto flatAlikeSpec)) flatAlikeUptoCard

/-- THE SECOND FORM's CARD OF 'seepagelaw11.FlatStays'. -/
def flatStaysUptoCard : Claim7 := { stood := { row := flatStaysUptoRow, standIns := [], harness := (true, "b82aa427d1d8f3abc4c8f501b0385133e2ef80bb7bdddc87f5f54f924d4f1404"), looks := false }, kinds := [], alts := [], laidByText := true, laidKinds := [.data], laidTests := true, laidLooks := .later }
def FlatStaysUptoCardSaid : Prop := Claim7.holds Tryz.pinned (.plain (OpenSpec.upto flatStaysSpec)) flatStaysUptoCard
end Rows
end Go.Proofs.YtcgnnbgknaamdaaGreatDoor
