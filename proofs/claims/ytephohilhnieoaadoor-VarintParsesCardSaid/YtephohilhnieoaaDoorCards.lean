/-
  DERIVED. GIVEN WITH THE SEED: THE CARDS: each row of YtephohilhnieoaaDoorRows.lean that lists a variable, with what it lists TIED to the program's text (the seventh form; the later family's looks); each row that meets fmt, with fmt's text TOLD by the authors' own Lean function (tested against real Go, not proved from fmt's source: count such statements apart). THE CARD IS WHAT COUNTS. Prove the row's statement (the work); the ties are given (YtephohilhnieoaaDoorTie.lean); close each card by the builder's one call (the guide's Derived/Test/ToyasCard.lean, 'card_holds'). Laid BY PROGRAM, IN A SANDBOX (cutbox-door.mjs). By AI agents, Wed Nov 11 2026. No macro, syntax, notation, axiom, sorry.
-/
import Derived.Test.YtephohilhnieoaaDoorRows
import GoSem.ClaimSeven
namespace Go.Proofs.YtephohilhnieoaaDoor
namespace Rows

/-- THE TIED CARD OF 'redlinelaw02.VarintParses'. -/
def varintParsesCard : Claim7 := { stood := { row := varintParsesRow, standIns := [], harness := (true, "6f7dadf7aceba11ce05864a5da9ce3572aaaa8c2862884fc4831129ff53e4ecf"), looks := true }, kinds := [], alts := [], laidByText := true, laidKinds := [.sentinel, .sentinel, .sentinel, .sentinel, .sentinel, .sentinel, .sentinel, .sentinel, .sentinel, .sentinel, .sentinel, .sentinel, .sentinel, .sentinel, .sentinel, .sentinel, .sentinel, .sentinel, .sentinel], laidTests := true, laidLooks := .later }
def VarintParsesCardSaid : Prop := Claim7.holds Tryd.pinned (.plain (OpenSpec.ofChange varintParsesSpec)) varintParsesCard

/-- THE TIED CARD OF 'redlinelaw02.VarintPuts'. -/
def varintPutsCard : Claim7 := { stood := { row := varintPutsRow, standIns := [], harness := (true, "6f7dadf7aceba11ce05864a5da9ce3572aaaa8c2862884fc4831129ff53e4ecf"), looks := true }, kinds := [], alts := [], laidByText := true, laidKinds := [.sentinel, .sentinel], laidTests := true, laidLooks := .later }
def VarintPutsCardSaid : Prop := Claim7.holds Tryd.pinned (.plain (OpenSpec.ofChange varintPutsSpec)) varintPutsCard

/-- THE TIED CARD OF 'redlinelaw02.VarintRows'. -/
def varintRowsCard : Claim7 := { stood := { row := varintRowsRow, standIns := [], harness := (true, "6f7dadf7aceba11ce05864a5da9ce3572aaaa8c2862884fc4831129ff53e4ecf"), looks := true }, kinds := [], alts := [], laidByText := true, laidKinds := [.sentinel, .sentinel], laidTests := true, laidLooks := .later }
def VarintRowsCardSaid : Prop := Claim7.holds Tryd.pinned (.plain (OpenSpec.ofChange varintRowsSpec)) varintRowsCard

/-- THE TIED CARD OF 'redlinelaw02.VarintZigs'. -/
def varintZigsCard : Claim7 := { stood := { row := varintZigsRow, standIns := [], harness := (true, "6f7dadf7aceba11ce05864a5da9ce3572aaaa8c2862884fc4831129ff53e4ecf"), looks := true }, kinds := [], alts := [], laidByText := true, laidKinds := [.sentinel, .sentinel], laidTests := true, laidLooks := .later }
def VarintZigsCardSaid : Prop := Claim7.holds Tryd.pinned (.plain (OpenSpec.ofChange varintZigsSpec)) varintZigsCard

/-- THE SECOND FORM's CARD OF 'redlinelaw02.VarintParses'. -/
def varintParsesUptoCard : Claim7 := { stood := { row := varintParsesUptoRow, standIns := [], harness := (true, "6f7dadf7aceba11ce05864a5da9ce3572aaaa8c2862884fc4831129ff53e4ecf"), looks := true }, kinds := [], alts := [], laidByText := true, laidKinds := [.sentinel, .sentinel, .sentinel, .sentinel, .sentinel, .sentinel, .sentinel, .sentinel, .sentinel, .sentinel, .sentinel, .sentinel, .sentinel, .sentinel, .sentinel, .sentinel, .sentinel, .sentinel, .sentinel], laidTests := true, laidLooks := .later }
def VarintParsesUptoCardSaid : Prop := Claim7.holds Tryd.pinned (.plain (OpenSpec.upto varintParsesSpec)) varintParsesUptoCard

/-- THE SECOND FORM's CARD OF 'redlinelaw02.VarintPuts'. -/
def varintPutsUptoCard : Claim7 := { stood := { row := varintPutsUptoRow, standIns := [], harness := (true, "6f7dadf7aceba11ce05864a5da9ce3572aaaa8c2862884fc4831129ff53e4ecf"), looks := true }, kinds := [], alts := [], laidByText := true, laidKinds := [.sentinel, .sentinel], laidTests := true, laidLooks := .later }
def VarintPutsUptoCardSaid : Prop := Claim7.holds Tryd.pinned (.plain (OpenSpec.upto varintPutsSpec)) varintPutsUptoCard

/-- THE SECOND FORM's CARD OF 'redlinelaw02.VarintRows'. -/
def varintRowsUptoCard : Claim7 := { stood := { row := varintRowsUptoRow, standIns := [], harness := (true, "6f7dadf7aceba11ce05864a5da9ce3572aaaa8c2862884fc4831129ff53e4ecf"), looks := true }, kinds := [], alts := [], laidByText := true, laidKinds := [.sentinel, .sentinel], laidTests := true, laidLooks := .later }
def VarintRowsUptoCardSaid : Prop := Claim7.holds Tryd.pinned (.plain (OpenSpec.upto varintRowsSpec)) varintRowsUptoCard

/-- THE SECOND FORM's CARD OF 'redlinelaw02.VarintZigs'. -/
def varintZigsUptoCard : Claim7 := { stood := { row := varintZigsUptoRow, standIns := [], harness := (true, "6f7dadf7aceba11ce05864a5da9ce3572aaaa8c2862884fc4831129ff53e4ecf"), looks := true }, kinds := [], alts := [], laidByText := true, laidKinds := [.sentinel, .sentinel], laidTests := true, laidLooks := .later }
def VarintZigsUptoCardSaid : Prop := Claim7.holds Tryd.pinned (.plain (OpenSpec.upto varintZigsSpec)) varintZigsUptoCard
end Rows
end Go.Proofs.YtephohilhnieoaaDoor
