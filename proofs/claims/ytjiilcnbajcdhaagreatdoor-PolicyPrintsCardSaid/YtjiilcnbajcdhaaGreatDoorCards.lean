/-
  DERIVED. GIVEN WITH THE SEED: THE CARDS: each row of YtjiilcnbajcdhaaGreatDoorRows.lean that lists a variable, with what it lists TIED to the program's text (the seventh form; the later family's looks); each row that meets fmt, with fmt's text TOLD by the authors' own Lean function (tested against real Go, not proved from fmt's source: count such statements apart). THE CARD IS WHAT COUNTS. Prove the row's statement (the work); the ties are given (YtjiilcnbajcdhaaGreatDoorTie.lean); close each card by the builder's one call (the guide's Derived/Test/ToyasCard.lean, 'card_holds'). Laid BY PROGRAM, IN A SANDBOX (cutbox-door.mjs). By AI agents, Wed Nov 11 2026. No macro, syntax, notation, axiom, sorry.
-/
import Derived.Test.YtjiilcnbajcdhaaGreatDoorRows
import GoSem.ClaimSeven
namespace Go.Proofs.YtjiilcnbajcdhaaGreatDoor
namespace Rows

/-- THE TIED CARD OF 'seepagelaw03.PolicyParses'. -/
def policyParsesCard : Claim7 := { stood := { row := policyParsesRow, standIns := [], harness := (true, "0c184ade35c31b7a8e40c2c06620c8b27a1f0fa7d5e8af27c9b07ef060dae684"), looks := false }, kinds := [], alts := [], laidByText := true, laidKinds := [.data, .data, .data, .data, .data, .pinned], laidTests := true, laidLooks := .later }
def PolicyParsesCardSaid : Prop := Claim7.holds Tryz.pinned (.plain (OpenSpec.ofChange policyParsesSpec)) policyParsesCard

/-- THE TIED CARD OF 'seepagelaw03.PolicyPrints'. -/
def policyPrintsCard : Claim7 := { stood := { row := policyPrintsRow, standIns := [], harness := (true, "0c184ade35c31b7a8e40c2c06620c8b27a1f0fa7d5e8af27c9b07ef060dae684"), looks := false }, kinds := [], alts := [], laidByText := true, laidKinds := [.data, .data, .data, .data, .data, .pinned], laidTests := true, laidLooks := .later }
def PolicyPrintsCardSaid : Prop := Claim7.holds Tryz.pinned (.plain (OpenSpec.ofChange policyPrintsSpec)) policyPrintsCard

/-- THE TIED CARD OF 'seepagelaw03.PolicyJoins'. -/
def policyJoinsCard : Claim7 := { stood := { row := policyJoinsRow, standIns := [], harness := (true, "0c184ade35c31b7a8e40c2c06620c8b27a1f0fa7d5e8af27c9b07ef060dae684"), looks := false }, kinds := [], alts := [], laidByText := true, laidKinds := [.data, .data, .data, .data, .data, .pinned], laidTests := true, laidLooks := .later }
def PolicyJoinsCardSaid : Prop := Claim7.holds Tryz.pinned (.plain (OpenSpec.ofChange policyJoinsSpec)) policyJoinsCard

/-- THE SECOND FORM's CARD OF 'seepagelaw03.PolicyParses'. -/
def policyParsesUptoCard : Claim7 := { stood := { row := policyParsesUptoRow, standIns := [], harness := (true, "0c184ade35c31b7a8e40c2c06620c8b27a1f0fa7d5e8af27c9b07ef060dae684"), looks := false }, kinds := [], alts := [], laidByText := true, laidKinds := [.data, .data, .data, .data, .data, .pinned], laidTests := true, laidLooks := .later }
def PolicyParsesUptoCardSaid : Prop := Claim7.holds Tryz.pinned (.plain (OpenSpec.upto policyParsesSpec)) policyParsesUptoCard

/-- THE SECOND FORM's CARD OF 'seepagelaw03.PolicyPrints'. -/
def policyPrintsUptoCard : Claim7 := { stood := { row := policyPrintsUptoRow, standIns := [], harness := (true, "0c184ade35c31b7a8e40c2c06620c8b27a1f0fa7d5e8af27c9b07ef060dae684"), looks := false }, kinds := [], alts := [], laidByText := true, laidKinds := [.data, .data, .data, .data, .data, .pinned], laidTests := true, laidLooks := .later }
def PolicyPrintsUptoCardSaid : Prop := Claim7.holds Tryz.pinned (.plain (OpenSpec.upto policyPrintsSpec)) policyPrintsUptoCard

/-- THE SECOND FORM's CARD OF 'seepagelaw03.PolicyJoins'. -/
def policyJoinsUptoCard : Claim7 := { stood := { row := policyJoinsUptoRow, standIns := [], harness := (true, "0c184ade35c31b7a8e40c2c06620c8b27a1f0fa7d5e8af27c9b07ef060dae684"), looks := false }, kinds := [], alts := [], laidByText := true, laidKinds := [.data, .data, .data, .data, .data, .pinned], laidTests := true, laidLooks := .later }
def PolicyJoinsUptoCardSaid : Prop := Claim7.holds Tryz.pinned (.plain (OpenSpec.upto policyJoinsSpec)) policyJoinsUptoCard
end Rows
end Go.Proofs.YtjiilcnbajcdhaaGreatDoor
