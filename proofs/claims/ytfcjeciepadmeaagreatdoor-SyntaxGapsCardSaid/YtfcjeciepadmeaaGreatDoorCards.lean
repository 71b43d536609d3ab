/-
  DERIVED. GIVEN WITH THE SEED: THE CARDS: each row of YtfcjeciepadmeaaGreatDoorRows.lean that lists a variable, with what it lists TIED to the program's text (the seventh form; the later family's looks); each row that meets fmt, with fmt's text TOLD by the authors' own Lean function (tested against real Go, not proved from fmt's source: count such statements apart). THE CARD IS WHAT COUNTS. Prove the row's statement (the work); the ties are given (YtfcjeciepadmeaaGreatDoorTie.lean); close each card by the builder's one call (the guide's Derived/Test/ToyasCard.lean, 'card_holds'). Laid BY PROGRAM, IN A SANDBOX (cutbox-door.mjs). By AI agents, Wed Nov 11 2026. No macro, syntax, notation, axiom, sorry.
-/
import Derived.Test.YtfcjeciepadmeaaGreatDoorRows
import GoSem.ClaimSeven
namespace Go.Proofs.YtfcjeciepadmeaaGreatDoor
namespace Rows

/-- THE TIED CARD OF 'redlinelaw08.SyntaxTexts'. -/
def syntaxTextsCard : Claim7 := { stood := { row := syntaxTextsRow, standIns := [], harness := (true, "b49e814355b1063565764ff8af63cc6026674d27c8b6415d216c1d2c99eb06ed"), looks := true }, kinds := [], alts := [], laidByText := true, laidKinds := [.handle, .sentinel, .sentinel, .sentinel, .sentinel, .sentinel, .sentinel, .sentinel, .sentinel, .sentinel, .sentinel, .sentinel, .sentinel, .sentinel, .sentinel, .sentinel, .sentinel, .sentinel, .sentinel, .sentinel], laidTests := true, laidLooks := .later }
def SyntaxTextsCardSaid : Prop := Claim7.holds Tryz.pinned (.plain (OpenSpec.ofChange syntaxTextsSpec)) syntaxTextsCard

/-- THE TIED CARD OF 'redlinelaw08.SyntaxGaps'. -/
def syntaxGapsCard : Claim7 := { stood := { row := syntaxGapsRow, standIns := [], harness := (true, "b49e814355b1063565764ff8af63cc6026674d27c8b6415d216c1d2c99eb06ed"), looks := true }, kinds := [], alts := [], laidByText := true, laidKinds := [.sentinel, .sentinel, .sentinel, .sentinel], laidTests := true, laidLooks := .later }
def SyntaxGapsCardSaid : Prop := Claim7.holds Tryz.pinned (.plain (OpenSpec.ofChange syntaxGapsSpec)) syntaxGapsCard

/-- THE SECOND FORM's CARD OF 'redlinelaw08.SyntaxTexts'. -/
def syntaxTextsUptoCard : Claim7 := { stood := { row := syntaxTextsUptoRow, standIns := [], harness := (true, "b49e814355b1063565764ff8af63cc6026674d27c8b6415d216c1d2c99eb06ed"), looks := true }, kinds := [], alts := [], laidByText := true, laidKinds := [.handle, .sentinel, .sentinel, .sentinel, .sentinel, .sentinel, .sentinel, .sentinel, .sentinel, .sentinel, .sentinel, .sentinel, .sentinel, .sentinel, .sentinel, .sentinel, .sentinel, .sentinel, .sentinel, .sentinel], laidTests := true, laidLooks := .later }
def SyntaxTextsUptoCardSaid : Prop := Claim7.holds Tryz.pinned (.plain (OpenSpec.upto syntaxTextsSpec)) syntaxTextsUptoCard

/-- THE SECOND FORM's CARD OF 'redlinelaw08.SyntaxGaps'. -/
def syntaxGapsUptoCard : Claim7 := { stood := { row := syntaxGapsUptoRow, standIns := [], harness := (true, "b49e814355b1063565764ff8af63cc6026674d27c8b6415d216c1d2c99eb06ed"), looks := true }, kinds := [], alts := [], laidByText := true, laidKinds := [.sentinel, .sentinel, .sentinel, .sentinel], laidTests := true, laidLooks := .later }
def SyntaxGapsUptoCardSaid : Prop := Claim7.holds Tryz.pinned (.plain (OpenSpec.upto syntaxGapsSpec)) syntaxGapsUptoCard
end Rows
end Go.Proofs.YtfcjeciepadmeaaGreatDoor
