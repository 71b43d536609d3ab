/-
  DERIVED. GIVEN WITH THE SEED: THE CARDS: each row of YtkgmchfieagjmaaDoorRows.lean that lists a variable, with what it lists TIED to the program's text (the seventh form; the later family's looks); each row that meets fmt, with fmt's text TOLD by the authors' own Lean function (tested against real Go, not proved from fmt's source: count such statements apart). THE CARD IS WHAT COUNTS. Prove the row's statement (the work); the ties are given (YtkgmchfieagjmaaDoorTie.lean); close each card by the builder's one call (the guide's Derived/Test/ToyasCard.lean, 'card_holds'). Laid BY PROGRAM, IN A SANDBOX (cutbox-door.mjs). By AI agents, Wed Nov 11 2026. No macro, syntax, notation, axiom, sorry.
-/
import Derived.Test.YtkgmchfieagjmaaDoorRows
import GoSem.ClaimSeven
namespace Go.Proofs.YtkgmchfieagjmaaDoor
namespace Rows

/-- THE TIED CARD OF 'redlinelaw03.TagParses'. -/
def tagParsesCard : Claim7 := { stood := { row := tagParsesRow, standIns := [], harness := (true, "fa586629b94f817ac19ddb408c5c982fc88f7d10e3318e22ecd85144eb0f5bd1"), looks := true }, kinds := [], alts := [], laidByText := true, laidKinds := [.sentinel, .sentinel, .sentinel, .sentinel, .sentinel, .sentinel, .sentinel, .sentinel, .sentinel, .sentinel, .sentinel, .sentinel, .sentinel, .sentinel, .sentinel, .sentinel, .sentinel, .sentinel, .sentinel], laidTests := true, laidLooks := .later }
def TagParsesCardSaid : Prop := Claim7.holds Tryd.pinned (.plain (OpenSpec.ofChange tagParsesSpec)) tagParsesCard

/-- THE TIED CARD OF 'redlinelaw03.TagPuts'. -/
def tagPutsCard : Claim7 := { stood := { row := tagPutsRow, standIns := [], harness := (true, "fa586629b94f817ac19ddb408c5c982fc88f7d10e3318e22ecd85144eb0f5bd1"), looks := true }, kinds := [], alts := [], laidByText := true, laidKinds := [.sentinel, .sentinel, .sentinel, .sentinel, .sentinel, .sentinel, .sentinel, .sentinel, .sentinel, .sentinel, .sentinel, .sentinel, .sentinel, .sentinel, .sentinel, .sentinel, .sentinel, .sentinel, .sentinel], laidTests := true, laidLooks := .later }
def TagPutsCardSaid : Prop := Claim7.holds Tryd.pinned (.plain (OpenSpec.ofChange tagPutsSpec)) tagPutsCard

/-- THE TIED CARD OF 'redlinelaw03.TagWords'. -/
def tagWordsCard : Claim7 := { stood := { row := tagWordsRow, standIns := [], harness := (true, "fa586629b94f817ac19ddb408c5c982fc88f7d10e3318e22ecd85144eb0f5bd1"), looks := true }, kinds := [], alts := [], laidByText := true, laidKinds := [.sentinel, .sentinel, .sentinel], laidTests := true, laidLooks := .later }
def TagWordsCardSaid : Prop := Claim7.holds Tryd.pinned (.plain (OpenSpec.ofChange tagWordsSpec)) tagWordsCard

/-- THE SECOND FORM's CARD OF 'redlinelaw03.TagParses'. -/
def tagParsesUptoCard : Claim7 := { stood := { row := tagParsesUptoRow, standIns := [], harness := (true, "fa586629b94f817ac19ddb408c5c982fc88f7d10e3318e22ecd85144eb0f5bd1"), looks := true }, kinds := [], alts := [], laidByText := true, laidKinds := [.sentinel, .sentinel, .sentinel, .sentinel, .sentinel, .sentinel, .sentinel, .sentinel, .sentinel, .sentinel, .sentinel, .sentinel, .sentinel, .sentinel, .sentinel, .sentinel, .sentinel, .sentinel, .sentinel], laidTests := true, laidLooks := .later }
def TagParsesUptoCardSaid : Prop := Claim7.holds Tryd.pinned (.plain (OpenSpec.upto tagParsesSpec)) tagParsesUptoCard

/-- THE SECOND FORM's CARD OF 'redlinelaw03.TagPuts'. -/
def tagPutsUptoCard : Claim7 := { stood := { row := tagPutsUptoRow, standIns := [], harness := (true, "fa586629b94f817ac19ddb408c5c982fc88f7d10e3318e22ecd85144eb0f5bd1"), looks := true }, kinds := [], alts := [], laidByText := true, laidKinds := [.sentinel, .sentinel, .sentinel, .sentinel, .sentinel, .sentinel, .sentinel, .sentinel, .sentinel, .sentinel, .sentinel, .sentinel, .sentinel, .sentinel, .sentinel, .sentinel, .sentinel, .sentinel, .sentinel], laidTests := true, laidLooks := .later }
def TagPutsUptoCardSaid : Prop := Claim7.holds Tryd.pinned (.plain (OpenSpec.upto tagPutsSpec)) tagPutsUptoCard

/-- THE SECOND FORM's CARD OF 'redlinelaw03.TagWords'. -/
def tagWordsUptoCard : Claim7 := { stood := { row := tagWordsUptoRow, standIns := [], harness := (true, "fa586629b94f817ac19ddb408c5c982fc88f7d10e3318e22ecd85144eb0f5bd1"), looks := true }, kinds := [], alts := [], laidByText := true, laidKinds := [.sentinel, .sentinel, .sentinel], laidTests := true, laidLooks := .later }
def TagWordsUptoCardSaid : Prop := Claim7.holds Tryd.pinned (.plain (OpenSpec.upto tagWordsSpec)) tagWordsUptoCard
end Rows
end Go.Proofs.YtkgmchfieagjmaaDoor
