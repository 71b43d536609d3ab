/-
  DERIVED. GIVEN WITH THE SEED: THE CARDS: each row of YtekeanikgcpijaaGreatDoorRows.lean that lists a variable, with what it lists TIED to the program's text (the seventh form; the later family's looks); each row that meets fmt, with fmt's text TOLD by the authors' own Lean function (tested against real Go, not proved from fmt's source: count such statements apart). THE CARD IS WHAT COUNTS. Prove the row's statement (the work); the ties are given (YtekeanikgcpijaaGreatDoorTie.lean); close each card by the builder's one call (the guide's Derived/Test/ToyasCard.lean, 'card_holds'). Laid BY PROGRAM, IN A SANDBOX (cutbox-door.mjs). By AI agents, Wed Nov 11 2026. No macro, syntax, notation, axiom, sorry.
-/
import Derived.Test.YtekeanikgcpijaaGreatDoorRows
import GoSem.ClaimSeven
namespace Go.Proofs.YtekeanikgcpijaaGreatDoor
namespace Rows

/-- THE TIED CARD OF 'redlinelaw09.ScopesTables'. -/
def scopesTablesCard : Claim7 := { stood := { row := scopesTablesRow, standIns := [], harness := (true, "a6c1da7b9f3f955da488814174c4b91220b4fc2fa2e59af59502920eaef96ad8"), looks := true }, kinds := [], alts := [], laidByText := true, laidKinds := [.handle, .sentinel, .sentinel, .sentinel, .sentinel, .sentinel, .sentinel, .sentinel, .sentinel, .sentinel, .sentinel, .sentinel, .sentinel, .sentinel, .sentinel, .sentinel, .sentinel, .sentinel, .sentinel, .sentinel], laidTests := true, laidLooks := .later }
def ScopesTablesCardSaid : Prop := Claim7.holds Tryz.pinned (.plain (OpenSpec.ofChange scopesTablesSpec)) scopesTablesCard

/-- THE TIED CARD OF 'redlinelaw09.ScopesLooks'. -/
def scopesLooksCard : Claim7 := { stood := { row := scopesLooksRow, standIns := [], harness := (true, "a6c1da7b9f3f955da488814174c4b91220b4fc2fa2e59af59502920eaef96ad8"), looks := true }, kinds := [], alts := [], laidByText := true, laidKinds := [.sentinel, .sentinel, .sentinel, .sentinel, .sentinel], laidTests := true, laidLooks := .later }
def ScopesLooksCardSaid : Prop := Claim7.holds Tryz.pinned (.plain (OpenSpec.ofChange scopesLooksSpec)) scopesLooksCard

/-- THE SECOND FORM's CARD OF 'redlinelaw09.ScopesTables'. -/
def scopesTablesUptoCard : Claim7 := { stood := { row := scopesTablesUptoRow, standIns := [], harness := (true, "a6c1da7b9f3f955da488814174c4b91220b4fc2fa2e59af59502920eaef96ad8"), looks := true }, kinds := [], alts := [], laidByText := true, laidKinds := [.handle, .sentinel, .sentinel, .sentinel, .sentinel, .sentinel, .sentinel, .sentinel, .sentinel, .sentinel, .sentinel, .sentinel, .sentinel, .sentinel, .sentinel, .sentinel, .sentinel, .sentinel, .sentinel, .sentinel], laidTests := true, laidLooks := .later }
def ScopesTablesUptoCardSaid : Prop := Claim7.holds Tryz.pinned (.plain (OpenSpec.upto scopesTablesSpec)) scopesTablesUptoCard

/-- THE SECOND FORM's CARD OF 'redlinelaw09.ScopesLooks'. -/
def scopesLooksUptoCard : Claim7 := { stood := { row := scopesLooksUptoRow, standIns := [], harness := (true, "a6c1da7b9f3f955da488814174c4b91220b4fc2fa2e59af59502920eaef96ad8"), looks := true }, kinds := [], alts := [], laidByText := true, laidKinds := [.sentinel, .sentinel, .sentinel, .sentinel, .sentinel], laidTests := true, laidLooks := .later }
def ScopesLooksUptoCardSaid : Prop := Claim7.holds Tryz.pinned (.plain (OpenSpec.upto scopesLooksSpec)) scopesLooksUptoCard
end Rows
end Go.Proofs.YtekeanikgcpijaaGreatDoor
