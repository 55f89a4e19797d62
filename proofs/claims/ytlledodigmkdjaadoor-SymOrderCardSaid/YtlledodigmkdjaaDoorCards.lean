/-
  DERIVED. GIVEN WITH THE SEED: THE CARDS: each row of YtlledodigmkdjaaDoorRows.lean that lists a variable, with what it lists TIED to the program's text (the seventh form; the later family's looks); each row that meets fmt, with fmt's text TOLD by the authors' own Lean function (tested against real Go, not proved from fmt's source: count such statements apart). THE CARD IS WHAT COUNTS. Prove the row's statement (the work); the ties are given (YtlledodigmkdjaaDoorTie.lean); close each card by the builder's one call (the guide's Derived/Test/ToyasCard.lean, 'card_holds'). Laid BY PROGRAM, IN A SANDBOX (cutbox-door.mjs). By AI agents, Wed Nov 11 2026. No macro, syntax, notation, axiom, sorry.
-/
import Derived.Test.YtlledodigmkdjaaDoorRows
import GoSem.ClaimSeven
namespace Go.Proofs.YtlledodigmkdjaaDoor
namespace Rows

/-- THE TIED CARD OF 'ponderlaw04.SymBack'. -/
def symBackCard : Claim7 := { stood := { row := symBackRow, standIns := [], harness := (true, "044b2e028a12bdcca11ea047c04fac1659f7c210552fffe3e42e4b6c6b5e2fab"), looks := true }, kinds := [], alts := [], laidByText := true, laidKinds := [.data, .data, .data, .sentinel, .sentinel], laidTests := true, laidLooks := .later }
def SymBackCardSaid : Prop := Claim7.holds Tryd.pinned (.plain (OpenSpec.ofChange symBackSpec)) symBackCard

/-- THE TIED CARD OF 'ponderlaw04.SymOrder'. -/
def symOrderCard : Claim7 := { stood := { row := symOrderRow, standIns := [], harness := (true, "044b2e028a12bdcca11ea047c04fac1659f7c210552fffe3e42e4b6c6b5e2fab"), looks := true }, kinds := [], alts := [], laidByText := true, laidKinds := [.data, .data, .data, .sentinel, .sentinel], laidTests := true, laidLooks := .later }
def SymOrderCardSaid : Prop := Claim7.holds Tryd.pinned (.plain (OpenSpec.ofChange symOrderSpec)) symOrderCard

/-- THE SECOND FORM's CARD OF 'ponderlaw04.SymBack'. -/
def symBackUptoCard : Claim7 := { stood := { row := symBackUptoRow, standIns := [], harness := (true, "044b2e028a12bdcca11ea047c04fac1659f7c210552fffe3e42e4b6c6b5e2fab"), looks := true }, kinds := [], alts := [], laidByText := true, laidKinds := [.data, .data, .data, .sentinel, .sentinel], laidTests := true, laidLooks := .later }
def SymBackUptoCardSaid : Prop := Claim7.holds Tryd.pinned (.plain (OpenSpec.upto symBackSpec)) symBackUptoCard

/-- THE SECOND FORM's CARD OF 'ponderlaw04.SymOrder'. -/
def symOrderUptoCard : Claim7 := { stood := { row := symOrderUptoRow, standIns := [], harness := (true, "044b2e028a12bdcca11ea047c04fac1659f7c210552fffe3e42e4b6c6b5e2fab"), looks := true }, kinds := [], alts := [], laidByText := true, laidKinds := [.data, .data, .data, .sentinel, .sentinel], laidTests := true, laidLooks := .later }
def SymOrderUptoCardSaid : Prop := Claim7.holds Tryd.pinned (.plain (OpenSpec.upto symOrderSpec)) symOrderUptoCard
end Rows
end Go.Proofs.YtlledodigmkdjaaDoor
