/-
  DERIVED. GIVEN WITH THE SEED: THE CARDS: each row of YtopmlmpadkdhjaaGreatDoorRows.lean that lists a variable, with what it lists TIED to the program's text (the seventh form; the later family's looks); each row that meets fmt, with fmt's text TOLD by the authors' own Lean function (tested against real Go, not proved from fmt's source: count such statements apart). THE CARD IS WHAT COUNTS. Prove the row's statement (the work); the ties are given (YtopmlmpadkdhjaaGreatDoorTie.lean); close each card by the builder's one call (the guide's Derived/Test/ToyasCard.lean, 'card_holds'). Laid BY PROGRAM, IN A SANDBOX (cutbox-door.mjs). By AI agents, Wed Nov 11 2026. No macro, syntax, notation, axiom, sorry.
-/
import Derived.Test.YtopmlmpadkdhjaaGreatDoorRows
import GoSem.ClaimSeven
namespace Go.Proofs.YtopmlmpadkdhjaaGreatDoor
namespace Rows

/-- THE TIED CARD OF 'seepagelaw10.CoreStays'. -/
def coreStaysCard : Claim7 := { stood := { row := coreStaysRow, standIns := [], harness := (true, "468e5b7d0ed1ee602acd17dca6cf5b3e85f8219a98280819a5f97e1f46026805"), looks := false }, kinds := [], alts := [], laidByText := true, laidKinds := [.data], laidTests := true, laidLooks := .later }
def CoreStaysCardSaid : Prop := Claim7.holds Tryz.pinned (.plain (OpenSpec.ofChange coreStaysSpec)) coreStaysCard

/-- THE TIED CARD OF 'seepagelaw10.CoreErased'. -/
def coreErasedCard : Claim7 := { stood := { row := coreErasedRow, standIns := [], harness := (true, "468e5b7d0ed1ee602acd17dca6cf5b3e85f8219a98280819a5f97e1f46026805"), looks := false }, kinds := [], alts := [], laidByText := true, laidKinds := [.data], laidTests := true, laidLooks := .later }
def CoreErasedCardSaid : Prop := Claim7.holds Tryz.pinned (.plain (OpenSpec.ofChange coreErasedSpec)) coreErasedCard

/-- THE TIED CARD OF 'seepagelaw10.CoreCycles'. -/
def coreCyclesCard : Claim7 := { stood := { row := coreCyclesRow, standIns := [], harness := (true, "468e5b7d0ed1ee602acd17dca6cf5b3e85f8219a98280819a5f97e1f46026805"), looks := false }, kinds := [], alts := [], laidByText := true, laidKinds := [.data], laidTests := true, laidLooks := .later }
def CoreCyclesCardSaid : Prop := Claim7.holds Tryz.pinned (.plain (OpenSpec.ofChange coreCyclesSpec)) coreCyclesCard

/-- THE TIED CARD OF 'seepagelaw10.CoreInterrupts'. -/
def coreInterruptsCard : Claim7 := { stood := { row := coreInterruptsRow, standIns := [], harness := (true, "468e5b7d0ed1ee602acd17dca6cf5b3e85f8219a98280819a5f97e1f46026805"), looks := false }, kinds := [], alts := [], laidByText := true, laidKinds := [.data], laidTests := true, laidLooks := .later }
def CoreInterruptsCardSaid : Prop := Claim7.holds Tryz.pinned (.plain (OpenSpec.ofChange coreInterruptsSpec)) coreInterruptsCard

/-- THE TIED CARD OF 'seepagelaw11.FlatTells'. -/
def flatTellsCard : Claim7 := { stood := { row := flatTellsRow, standIns := [], harness := (true, "468e5b7d0ed1ee602acd17dca6cf5b3e85f8219a98280819a5f97e1f46026805"), looks := false }, kinds := [], alts := [], laidByText := true, laidKinds := [.data], laidTests := true, laidLooks := .later }
def FlatTellsCardSaid : Prop := Claim7.holds Tryz.pinned (.plain (OpenSpec.ofChange flatTellsSpec)) flatTellsCard

/-- THE TIED CARD OF 'seepagelaw11.FlatParts'. -/
def flatPartsCard : Claim7 := { stood := { row := flatPartsRow, standIns := [], harness := (true, "468e5b7d0ed1ee602acd17dca6cf5b3e85f8219a98280819a5f97e1f46026805"), looks := false }, kinds := [], alts := [], laidByText := true, laidKinds := [.data], laidTests := true, laidLooks := .later }
def FlatPartsCardSaid : Prop := Claim7.holds Tryz.pinned (.plain (OpenSpec.ofChange flatPartsSpec)) flatPartsCard

/-- THE SECOND FORM's CARD OF 'seepagelaw10.CoreStays'. -/
def coreStaysUptoCard : Claim7 := { stood := { row := coreStaysUptoRow, standIns := [], harness := (true, "468e5b7d0ed1ee602acd17dca6cf5b3e85f8219a98280819a5f97e1f46026805"), looks := false }, kinds := [], alts := [], laidByText := true, laidKinds := [.data], laidTests := true, laidLooks := .later }
def CoreStaysUptoCardSaid : Prop := Claim7.holds Tryz.pinned (.plain (OpenSpec.upto coreStaysSpec)) coreStaysUptoCard

/-- THE SECOND FORM's CARD OF 'seepagelaw10.CoreErased'. -/
def coreErasedUptoCard : Claim7 := { stood := { row := coreErasedUptoRow, standIns := [], harness := (true, "468e5b7d0ed1ee602acd17dca6cf5b3e85f8219a98280819a5f97e1f46026805"), looks := false }, kinds := [], alts := [], laidByText := true, laidKinds := [.data], laidTests := true, laidLooks := .later }
def CoreErasedUptoCardSaid : Prop := Claim7.holds Tryz.pinned (.plain (OpenSpec.upto coreErasedSpec)) coreErasedUptoCard

/-- THE SECOND FORM's CARD OF 'seepagelaw10.CoreCycles'. -/
def coreCyclesUptoCard : Claim7 := { stood := { row := coreCyclesUptoRow, standIns := [], harness := (true, "468e5b7d0ed1ee602acd17dca6cf5b3e85f8219a98280819a5f97e1f46026805"), looks := false }, kinds := [], alts := [], laidByText := true, laidKinds := [.data], laidTests := true, laidLooks := .later }
def CoreCyclesUptoCardSaid : Prop := Claim7.holds Tryz.pinned (.plain (OpenSpec.upto coreCyclesSpec)) coreCyclesUptoCard

/-- THE SECOND FORM's CARD OF 'seepagelaw10.CoreInterrupts'. -/
def coreInterruptsUptoCard : Claim7 := { stood := { row := coreInterruptsUptoRow, standIns := [], harness := (true, "468e5b7d0ed1ee602acd17dca6cf5b3e85f8219a98280819a5f97e1f46026805"), looks := false }, kinds := [], alts := [], laidByText := true, laidKinds := [.data], laidTests := true, laidLooks := .later }
def CoreInterruptsUptoCardSaid : Prop := Claim7.holds Tryz.pinned (.plain (OpenSpec.upto coreInterruptsSpec)) coreInterruptsUptoCard

/-- THE SECOND FORM's CARD OF 'seepagelaw11.FlatTells'. -/
def flatTellsUptoCard : Claim7 := { stood := { row := flatTellsUptoRow, standIns := [], harness := (true, "468e5b7d0ed1ee602acd17dca6cf5b3e85f8219a98280819a5f97e1f46026805"), looks := false }, kinds := [], alts := [], laidByText := true, laidKinds := [.data], laidTests := true, laidLooks := .later }
def FlatTellsUptoCardSaid : Prop := Claim7.holds Tryz.pinned (.plain (OpenSpec.upto flatTellsSpec)) flatTellsUptoCard

/-- THE SECOND FORM's CARD OF 'seepagelaw11.FlatParts'. -/
def flatPartsUptoCard : Claim7 := { stood := { row := flatPartsUptoRow, standIns := [], harness := (true, "468e5b7d0ed1ee602acd17dca6cf5b3e85f8219a98280819a5f97e1f46026805"), looks := false }, kinds := [], alts := [], laidByText := true, laidKinds := [.data], laidTests := true, laidLooks := .later }
def FlatPartsUptoCardSaid : Prop := Claim7.holds Tryz.pinned (.plain (OpenSpec.upto flatPartsSpec)) flatPartsUptoCard
end Rows
end Go.Proofs.YtopmlmpadkdhjaaGreatDoor
