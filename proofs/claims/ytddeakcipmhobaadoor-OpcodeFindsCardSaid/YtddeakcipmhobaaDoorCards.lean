/-
  DERIVED. GIVEN WITH THE SEED: THE CARDS: each row of YtddeakcipmhobaaDoorRows.lean that lists a variable, with what it lists TIED to the program's text (the seventh form; the later family's looks); each row that meets fmt, with fmt's text TOLD by the authors' own Lean function (tested against real Go, not proved from fmt's source: count such statements apart). THE CARD IS WHAT COUNTS. Prove the row's statement (the work); the ties are given (YtddeakcipmhobaaDoorTie.lean); close each card by the builder's one call (the guide's Derived/Test/ToyasCard.lean, 'card_holds'). Laid BY PROGRAM, IN A SANDBOX (cutbox-door.mjs). By AI agents, Wed Nov 11 2026. No macro, syntax, notation, axiom, sorry.
-/
import Derived.Test.YtddeakcipmhobaaDoorRows
import GoSem.ClaimSeven
namespace Go.Proofs.YtddeakcipmhobaaDoor
namespace Rows

/-- THE TIED CARD OF 'seepagelaw09.OpcodeTable'. -/
def opcodeTableCard : Claim7 := { stood := { row := opcodeTableRow, standIns := [], harness := (true, "d9edf0fdb1b4f6698650a6c44700220ecd846aa108ab76358346f50acadbd52c"), looks := false }, kinds := [], alts := [], laidByText := true, laidKinds := [.data], laidTests := true, laidLooks := .later }
def OpcodeTableCardSaid : Prop := Claim7.holds Tryd.pinned (.plain (OpenSpec.ofChange opcodeTableSpec)) opcodeTableCard

/-- THE TIED CARD OF 'seepagelaw09.OpcodeFinds'. -/
def opcodeFindsCard : Claim7 := { stood := { row := opcodeFindsRow, standIns := [], harness := (true, "d9edf0fdb1b4f6698650a6c44700220ecd846aa108ab76358346f50acadbd52c"), looks := false }, kinds := [], alts := [], laidByText := true, laidKinds := [.data], laidTests := true, laidLooks := .later }
def OpcodeFindsCardSaid : Prop := Claim7.holds Tryd.pinned (.plain (OpenSpec.ofChange opcodeFindsSpec)) opcodeFindsCard

/-- THE TIED CARD OF 'seepagelaw09.OpcodeCounts'. -/
def opcodeCountsCard : Claim7 := { stood := { row := opcodeCountsRow, standIns := [], harness := (true, "d9edf0fdb1b4f6698650a6c44700220ecd846aa108ab76358346f50acadbd52c"), looks := false }, kinds := [], alts := [], laidByText := true, laidKinds := [.data], laidTests := true, laidLooks := .later }
def OpcodeCountsCardSaid : Prop := Claim7.holds Tryd.pinned (.plain (OpenSpec.ofChange opcodeCountsSpec)) opcodeCountsCard

/-- THE TIED CARD OF 'seepagelaw09.OpcodeCycles'. -/
def opcodeCyclesCard : Claim7 := { stood := { row := opcodeCyclesRow, standIns := [], harness := (true, "d9edf0fdb1b4f6698650a6c44700220ecd846aa108ab76358346f50acadbd52c"), looks := false }, kinds := [], alts := [], laidByText := true, laidKinds := [.data], laidTests := true, laidLooks := .later }
def OpcodeCyclesCardSaid : Prop := Claim7.holds Tryd.pinned (.plain (OpenSpec.ofChange opcodeCyclesSpec)) opcodeCyclesCard

/-- THE TIED CARD OF 'seepagelaw09.OpcodeUses'. -/
def opcodeUsesCard : Claim7 := { stood := { row := opcodeUsesRow, standIns := [], harness := (true, "d9edf0fdb1b4f6698650a6c44700220ecd846aa108ab76358346f50acadbd52c"), looks := false }, kinds := [], alts := [], laidByText := true, laidKinds := [.data], laidTests := true, laidLooks := .later }
def OpcodeUsesCardSaid : Prop := Claim7.holds Tryd.pinned (.plain (OpenSpec.ofChange opcodeUsesSpec)) opcodeUsesCard

/-- THE SECOND FORM's CARD OF 'seepagelaw09.OpcodeTable'. -/
def opcodeTableUptoCard : Claim7 := { stood := { row := opcodeTableUptoRow, standIns := [], harness := (true, "d9edf0fdb1b4f6698650a6c44700220ecd846aa108ab76358346f50acadbd52c"), looks := false }, kinds := [], alts := [], laidByText := true, laidKinds := [.data], laidTests := true, laidLooks := .later }
def OpcodeTableUptoCardSaid : Prop := Claim7.holds Tryd.pinned (.plain (OpenSpec.upto opcodeTableSpec)) opcodeTableUptoCard

/-- THE SECOND FORM's CARD OF 'seepagelaw09.OpcodeFinds'. -/
def opcodeFindsUptoCard : Claim7 := { stood := { row := opcodeFindsUptoRow, standIns := [], harness := (true, "d9edf0fdb1b4f6698650a6c44700220ecd846aa108ab76358346f50acadbd52c"), looks := false }, kinds := [], alts := [], laidByText := true, laidKinds := [.data], laidTests := true, laidLooks := .later }
def OpcodeFindsUptoCardSaid : Prop := Claim7.holds Tryd.pinned (.plain (OpenSpec.upto opcodeFindsSpec)) opcodeFindsUptoCard

/-- THE SECOND FORM's CARD OF 'seepagelaw09.OpcodeCounts'. -/
def opcodeCountsUptoCard : Claim7 := { stood := { row := opcodeCountsUptoRow, standIns := [], harness := (true, "d9edf0fdb1b4f6698650a6c44700220ecd846aa108ab76358346f50acadbd52c"), looks := false }, kinds := [], alts := [], laidByText := true, laidKinds := [.data], laidTests := true, laidLooks := .later }
def OpcodeCountsUptoCardSaid : Prop := Claim7.holds Tryd.pinned (.plain (OpenSpec.upto opcodeCountsSpec)) opcodeCountsUptoCard

/-- THE SECOND FORM's CARD OF 'seepagelaw09.OpcodeCycles'. -/
def opcodeCyclesUptoCard : Claim7 := { stood := { row := opcodeCyclesUptoRow, standIns := [], harness := (true, "d9edf0fdb1b4f6698650a6c44700220ecd846aa108ab76358346f50acadbd52c"), looks := false }, kinds := [], alts := [], laidByText := true, laidKinds := [.data], laidTests := true, laidLooks := .later }
def OpcodeCyclesUptoCardSaid : Prop := Claim7.holds Tryd.pinned (.plain (OpenSpec.upto opcodeCyclesSpec)) opcodeCyclesUptoCard

/-- THE SECOND FORM's CARD OF 'seepagelaw09.OpcodeUses'. -/
def opcodeUsesUptoCard : Claim7 := { stood := { row := opcodeUsesUptoRow, standIns := [], harness := (true, "d9edf0fdb1b4f6698650a6c44700220ecd846aa108ab76358346f50acadbd52c"), looks := false }, kinds := [], alts := [], laidByText := true, laidKinds := [.data], laidTests := true, laidLooks := .later }
def OpcodeUsesUptoCardSaid : Prop := Claim7.holds Tryd.pinned (.plain (OpenSpec.upto opcodeUsesSpec)) opcodeUsesUptoCard
end Rows
end Go.Proofs.YtddeakcipmhobaaDoor
