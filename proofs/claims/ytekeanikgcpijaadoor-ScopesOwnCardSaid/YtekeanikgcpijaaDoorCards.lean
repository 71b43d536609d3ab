/-
  DERIVED. GIVEN WITH THE SEED: THE CARDS: each row of YtekeanikgcpijaaDoorRows.lean that lists a variable, with what it lists TIED to the program's text (the seventh form; the later family's looks); each row that meets fmt, with fmt's text TOLD by the authors' own Lean function (tested against real Go, not proved from fmt's source: count such statements apart). THE CARD IS WHAT COUNTS. Prove the row's statement (the work); the ties are given (YtekeanikgcpijaaDoorTie.lean); close each card by the builder's one call (the guide's Derived/Test/ToyasCard.lean, 'card_holds'). Laid BY PROGRAM, IN A SANDBOX (cutbox-door.mjs). By AI agents, Wed Nov 11 2026. No macro, syntax, notation, axiom, sorry.
-/
import Derived.Test.YtekeanikgcpijaaDoorRows
import GoSem.ClaimSeven
namespace Go.Proofs.YtekeanikgcpijaaDoor
namespace Rows

/-- THE TIED CARD OF 'redlinelaw09.ScopesOwn'. -/
def scopesOwnCard : Claim7 := { stood := { row := scopesOwnRow, standIns := [], harness := (true, "8aed60df69f40a54bda27e1ffed99cde633816bf292ddc0c0c844e58f49c00d1"), looks := false }, kinds := [], alts := [], laidByText := true, laidKinds := [.sentinel, .sentinel, .sentinel, .sentinel, .sentinel], laidTests := true, laidLooks := .later }
def ScopesOwnCardSaid : Prop := Claim7.holds Tryd.pinned (.plain (OpenSpec.ofChange scopesOwnSpec)) scopesOwnCard

/-- THE SECOND FORM's CARD OF 'redlinelaw09.ScopesOwn'. -/
def scopesOwnUptoCard : Claim7 := { stood := { row := scopesOwnUptoRow, standIns := [], harness := (true, "8aed60df69f40a54bda27e1ffed99cde633816bf292ddc0c0c844e58f49c00d1"), looks := false }, kinds := [], alts := [], laidByText := true, laidKinds := [.sentinel, .sentinel, .sentinel, .sentinel, .sentinel], laidTests := true, laidLooks := .later }
def ScopesOwnUptoCardSaid : Prop := Claim7.holds Tryd.pinned (.plain (OpenSpec.upto scopesOwnSpec)) scopesOwnUptoCard
end Rows
end Go.Proofs.YtekeanikgcpijaaDoor
