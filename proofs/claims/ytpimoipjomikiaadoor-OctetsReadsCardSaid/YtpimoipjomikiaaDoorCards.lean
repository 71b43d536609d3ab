/-
  DERIVED. GIVEN WITH THE SEED: THE CARDS: each row of YtpimoipjomikiaaDoorRows.lean that lists a variable, with what it lists TIED to the program's text (the seventh form; the later family's looks); each row that meets fmt, with fmt's text TOLD by the authors' own Lean function (tested against real Go, not proved from fmt's source: count such statements apart). THE CARD IS WHAT COUNTS. Prove the row's statement (the work); the ties are given (YtpimoipjomikiaaDoorTie.lean); close each card by the builder's one call (the guide's Derived/Test/ToyasCard.lean, 'card_holds'). Laid BY PROGRAM, IN A SANDBOX (cutbox-door.mjs). By AI agents, Wed Nov 11 2026. No macro, syntax, notation, axiom, sorry.
-/
import Derived.Test.YtpimoipjomikiaaDoorRows
import GoSem.ClaimSeven
namespace Go.Proofs.YtpimoipjomikiaaDoor
namespace Rows

/-- THE TIED CARD OF 'redlinelaw01.OctetsReads'. -/
def octetsReadsCard : Claim7 := { stood := { row := octetsReadsRow, standIns := [], harness := (true, "a3d827ae275094354d9ed9fa3896484e9ba426f1e568668480c149480976b446"), looks := true }, kinds := [], alts := [], laidByText := true, laidKinds := [.sentinel, .sentinel, .sentinel, .sentinel, .sentinel, .sentinel, .sentinel, .sentinel, .sentinel, .sentinel, .sentinel, .sentinel, .sentinel, .sentinel, .sentinel, .sentinel, .sentinel, .sentinel, .sentinel], laidTests := true, laidLooks := .later }
def OctetsReadsCardSaid : Prop := Claim7.holds Tryd.pinned (.plain (OpenSpec.ofChange octetsReadsSpec)) octetsReadsCard

/-- THE TIED CARD OF 'redlinelaw01.OctetsPuts'. -/
def octetsPutsCard : Claim7 := { stood := { row := octetsPutsRow, standIns := [], harness := (true, "a3d827ae275094354d9ed9fa3896484e9ba426f1e568668480c149480976b446"), looks := true }, kinds := [], alts := [], laidByText := true, laidKinds := [.sentinel, .sentinel], laidTests := true, laidLooks := .later }
def OctetsPutsCardSaid : Prop := Claim7.holds Tryd.pinned (.plain (OpenSpec.ofChange octetsPutsSpec)) octetsPutsCard

/-- THE TIED CARD OF 'redlinelaw01.OctetsOrder'. -/
def octetsOrderCard : Claim7 := { stood := { row := octetsOrderRow, standIns := [], harness := (true, "a3d827ae275094354d9ed9fa3896484e9ba426f1e568668480c149480976b446"), looks := true }, kinds := [], alts := [], laidByText := true, laidKinds := [.sentinel, .sentinel], laidTests := true, laidLooks := .later }
def OctetsOrderCardSaid : Prop := Claim7.holds Tryd.pinned (.plain (OpenSpec.ofChange octetsOrderSpec)) octetsOrderCard

/-- THE SECOND FORM's CARD OF 'redlinelaw01.OctetsReads'. -/
def octetsReadsUptoCard : Claim7 := { stood := { row := octetsReadsUptoRow, standIns := [], harness := (true, "a3d827ae275094354d9ed9fa3896484e9ba426f1e568668480c149480976b446"), looks := true }, kinds := [], alts := [], laidByText := true, laidKinds := [.sentinel, .sentinel, .sentinel, .sentinel, .sentinel, .sentinel, .sentinel, .sentinel, .sentinel, .sentinel, .sentinel, .sentinel, .sentinel, .sentinel, .sentinel, .sentinel, .sentinel, .sentinel, .sentinel], laidTests := true, laidLooks := .later }
def OctetsReadsUptoCardSaid : Prop := Claim7.holds Tryd.pinned (.plain (OpenSpec.upto octetsReadsSpec)) octetsReadsUptoCard

/-- THE SECOND FORM's CARD OF 'redlinelaw01.OctetsPuts'. -/
def octetsPutsUptoCard : Claim7 := { stood := { row := octetsPutsUptoRow, standIns := [], harness := (true, "a3d827ae275094354d9ed9fa3896484e9ba426f1e568668480c149480976b446"), looks := true }, kinds := [], alts := [], laidByText := true, laidKinds := [.sentinel, .sentinel], laidTests := true, laidLooks := .later }
def OctetsPutsUptoCardSaid : Prop := Claim7.holds Tryd.pinned (.plain (OpenSpec.upto octetsPutsSpec)) octetsPutsUptoCard

/-- THE SECOND FORM's CARD OF 'redlinelaw01.OctetsOrder'. -/
def octetsOrderUptoCard : Claim7 := { stood := { row := octetsOrderUptoRow, standIns := [], harness := (true, "a3d827ae275094354d9ed9fa3896484e9ba426f1e568668480c149480976b446"), looks := true }, kinds := [], alts := [], laidByText := true, laidKinds := [.sentinel, .sentinel], laidTests := true, laidLooks := .later }
def OctetsOrderUptoCardSaid : Prop := Claim7.holds Tryd.pinned (.plain (OpenSpec.upto octetsOrderSpec)) octetsOrderUptoCard
end Rows
end Go.Proofs.YtpimoipjomikiaaDoor
