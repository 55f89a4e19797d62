/-
  DERIVED. GIVEN WITH THE SEED: THE CARDS: each row of YtlledodigmkdjaaGreatDoorRows.lean that lists a variable, with what it lists TIED to the program's text (the seventh form; the later family's looks); each row that meets fmt, with fmt's text TOLD by the authors' own Lean function (tested against real Go, not proved from fmt's source: count such statements apart). THE CARD IS WHAT COUNTS. Prove the row's statement (the work); the ties are given (YtlledodigmkdjaaGreatDoorTie.lean); close each card by the builder's one call (the guide's Derived/Test/ToyasCard.lean, 'card_holds'). Laid BY PROGRAM, IN A SANDBOX (cutbox-door.mjs). By AI agents, Wed Nov 11 2026. No macro, syntax, notation, axiom, sorry.
-/
import Derived.Test.YtlledodigmkdjaaGreatDoorRows
import GoSem.ClaimSeven
namespace Go.Proofs.YtlledodigmkdjaaGreatDoor
namespace Rows

/-- THE TIED CARD OF 'ponderlaw04.SymTexts'. -/
def symTextsCard : Claim7 := { stood := { row := symTextsRow, standIns := [], harness := (true, "4d20b20485fb87648722edb520829809040141402b45db508b815f194cd9c639"), looks := true }, kinds := [], alts := [], laidByText := true, laidKinds := [.data, .data, .data, .sentinel, .sentinel], laidTests := true, laidLooks := .later }
def SymTextsCardSaid : Prop := Claim7.holds Tryz.pinned (.plain (OpenSpec.ofChange symTextsSpec)) symTextsCard

/-- THE TIED CARD OF 'ponderlaw04.SymParses'. -/
def symParsesCard : Claim7 := { stood := { row := symParsesRow, standIns := [], harness := (true, "4d20b20485fb87648722edb520829809040141402b45db508b815f194cd9c639"), looks := true }, kinds := [], alts := [], laidByText := true, laidKinds := [.data, .data, .data, .sentinel, .sentinel], laidTests := true, laidLooks := .later }
def SymParsesCardSaid : Prop := Claim7.holds Tryz.pinned (.plain (OpenSpec.ofChange symParsesSpec)) symParsesCard

/-- THE TIED CARD OF 'ponderlaw04.SymTables'. -/
def symTablesCard : Claim7 := { stood := { row := symTablesRow, standIns := [], harness := (true, "4d20b20485fb87648722edb520829809040141402b45db508b815f194cd9c639"), looks := true }, kinds := [], alts := [], laidByText := true, laidKinds := [.data, .data, .data, .sentinel, .sentinel], laidTests := true, laidLooks := .later }
def SymTablesCardSaid : Prop := Claim7.holds Tryz.pinned (.plain (OpenSpec.ofChange symTablesSpec)) symTablesCard

/-- THE TIED CARD OF 'ponderlaw04.SymFresh'. -/
def symFreshCard : Claim7 := { stood := { row := symFreshRow, standIns := [], harness := (true, "4d20b20485fb87648722edb520829809040141402b45db508b815f194cd9c639"), looks := true }, kinds := [], alts := [], laidByText := true, laidKinds := [.data, .data, .data, .sentinel, .sentinel], laidTests := true, laidLooks := .later }
def SymFreshCardSaid : Prop := Claim7.holds Tryz.pinned (.plain (OpenSpec.ofChange symFreshSpec)) symFreshCard

/-- THE TIED CARD OF 'ponderlaw04.SymClones'. -/
def symClonesCard : Claim7 := { stood := { row := symClonesRow, standIns := [], harness := (true, "4d20b20485fb87648722edb520829809040141402b45db508b815f194cd9c639"), looks := true }, kinds := [], alts := [], laidByText := true, laidKinds := [.data, .data, .data, .sentinel, .sentinel], laidTests := true, laidLooks := .later }
def SymClonesCardSaid : Prop := Claim7.holds Tryz.pinned (.plain (OpenSpec.ofChange symClonesSpec)) symClonesCard

/-- THE SECOND FORM's CARD OF 'ponderlaw04.SymTexts'. -/
def symTextsUptoCard : Claim7 := { stood := { row := symTextsUptoRow, standIns := [], harness := (true, "4d20b20485fb87648722edb520829809040141402b45db508b815f194cd9c639"), looks := true }, kinds := [], alts := [], laidByText := true, laidKinds := [.data, .data, .data, .sentinel, .sentinel], laidTests := true, laidLooks := .later }
def SymTextsUptoCardSaid : Prop := Claim7.holds Tryz.pinned (.plain (OpenSpec.upto symTextsSpec)) symTextsUptoCard

/-- THE SECOND FORM's CARD OF 'ponderlaw04.SymParses'. -/
def symParsesUptoCard : Claim7 := { stood := { row := symParsesUptoRow, standIns := [], harness := (true, "4d20b20485fb87648722edb520829809040141402b45db508b815f194cd9c639"), looks := true }, kinds := [], alts := [], laidByText := true, laidKinds := [.data, .data, .data, .sentinel, .sentinel], laidTests := true, laidLooks := .later }
def SymParsesUptoCardSaid : Prop := Claim7.holds Tryz.pinned (.plain (OpenSpec.upto symParsesSpec)) symParsesUptoCard

/-- THE SECOND FORM's CARD OF 'ponderlaw04.SymTables'. -/
def symTablesUptoCard : Claim7 := { stood := { row := symTablesUptoRow, standIns := [], harness := (true, "4d20b20485fb87648722edb520829809040141402b45db508b815f194cd9c639"), looks := true }, kinds := [], alts := [], laidByText := true, laidKinds := [.data, .data, .data, .sentinel, .sentinel], laidTests := true, laidLooks := .later }
def SymTablesUptoCardSaid : Prop := Claim7.holds Tryz.pinned (.plain (OpenSpec.upto symTablesSpec)) symTablesUptoCard

/-- THE SECOND FORM's CARD OF 'ponderlaw04.SymFresh'. -/
def symFreshUptoCard : Claim7 := { stood := { row := symFreshUptoRow, standIns := [], harness := (true, "4d20b20485fb87648722edb520829809040141402b45db508b815f194cd9c639"), looks := true }, kinds := [], alts := [], laidByText := true, laidKinds := [.data, .data, .data, .sentinel, .sentinel], laidTests := true, laidLooks := .later }
def SymFreshUptoCardSaid : Prop := Claim7.holds Tryz.pinned (.plain (OpenSpec.upto symFreshSpec)) symFreshUptoCard

/-- THE SECOND FORM's CARD OF 'ponderlaw04.SymClones'. -/
def symClonesUptoCard : Claim7 := { stood := { row := symClonesUptoRow, standIns := [], harness := (true, "4d20b20485fb87648722edb520829809040141402b45db508b815f194cd9c639"), looks := true }, kinds := [], alts := [], laidByText := true, laidKinds := [.data, .data, .data, .sentinel, .sentinel], laidTests := true, laidLooks := .later }
def SymClonesUptoCardSaid : Prop := Claim7.holds Tryz.pinned (.plain (OpenSpec.upto symClonesSpec)) symClonesUptoCard
end Rows
end Go.Proofs.YtlledodigmkdjaaGreatDoor
