/-
  DERIVED. GIVEN WITH THE SEED: THE CARDS: each row of YtnokjainniihkaaDoorRows.lean that lists a variable, with what it lists TIED to the program's text (the seventh form; the later family's looks); each row that meets fmt, with fmt's text TOLD by the authors' own Lean function (tested against real Go, not proved from fmt's source: count such statements apart). THE CARD IS WHAT COUNTS. Prove the row's statement (the work); the ties are given (YtnokjainniihkaaDoorTie.lean); close each card by the builder's one call (the guide's Derived/Test/ToyasCard.lean, 'card_holds'). Laid BY PROGRAM, IN A SANDBOX (cutbox-door.mjs). By AI agents, Wed Nov 11 2026. No macro, syntax, notation, axiom, sorry.
-/
import Derived.Test.YtnokjainniihkaaDoorRows
import GoSem.ClaimSeven
namespace Go.Proofs.YtnokjainniihkaaDoor
namespace Rows

/-- THE TIED CARD OF 'redlinelaw10.KindsTell'. -/
def kindsTellCard : Claim7 := { stood := { row := kindsTellRow, standIns := [], harness := (true, "aaf5204c617b0a7a6e2f335f8ff907610e0ca0dfb1242ce9248e492eba2808ae"), looks := false }, kinds := [], alts := [], laidByText := true, laidKinds := [.data], laidTests := true, laidLooks := .later }
def KindsTellCardSaid : Prop := Claim7.holds Tryd.pinned (.plain (OpenSpec.ofChange kindsTellSpec)) kindsTellCard

/-- THE TIED CARD OF 'redlinelaw10.KindsFit'. -/
def kindsFitCard : Claim7 := { stood := { row := kindsFitRow, standIns := [], harness := (true, "aaf5204c617b0a7a6e2f335f8ff907610e0ca0dfb1242ce9248e492eba2808ae"), looks := false }, kinds := [], alts := [], laidByText := true, laidKinds := [.data], laidTests := true, laidLooks := .later }
def KindsFitCardSaid : Prop := Claim7.holds Tryd.pinned (.plain (OpenSpec.ofChange kindsFitSpec)) kindsFitCard

/-- THE TIED CARD OF 'redlinelaw10.KindsBack'. -/
def kindsBackCard : Claim7 := { stood := { row := kindsBackRow, standIns := [], harness := (true, "aaf5204c617b0a7a6e2f335f8ff907610e0ca0dfb1242ce9248e492eba2808ae"), looks := false }, kinds := [], alts := [], laidByText := true, laidKinds := [.data], laidTests := true, laidLooks := .later }
def KindsBackCardSaid : Prop := Claim7.holds Tryd.pinned (.plain (OpenSpec.ofChange kindsBackSpec)) kindsBackCard

/-- THE SECOND FORM's CARD OF 'redlinelaw10.KindsTell'. -/
def kindsTellUptoCard : Claim7 := { stood := { row := kindsTellUptoRow, standIns := [], harness := (true, "aaf5204c617b0a7a6e2f335f8ff907610e0ca0dfb1242ce9248e492eba2808ae"), looks := false }, kinds := [], alts := [], laidByText := true, laidKinds := [.data], laidTests := true, laidLooks := .later }
def KindsTellUptoCardSaid : Prop := Claim7.holds Tryd.pinned (.plain (OpenSpec.upto kindsTellSpec)) kindsTellUptoCard

/-- THE SECOND FORM's CARD OF 'redlinelaw10.KindsFit'. -/
def kindsFitUptoCard : Claim7 := { stood := { row := kindsFitUptoRow, standIns := [], harness := (true, "aaf5204c617b0a7a6e2f335f8ff907610e0ca0dfb1242ce9248e492eba2808ae"), looks := false }, kinds := [], alts := [], laidByText := true, laidKinds := [.data], laidTests := true, laidLooks := .later }
def KindsFitUptoCardSaid : Prop := Claim7.holds Tryd.pinned (.plain (OpenSpec.upto kindsFitSpec)) kindsFitUptoCard

/-- THE SECOND FORM's CARD OF 'redlinelaw10.KindsBack'. -/
def kindsBackUptoCard : Claim7 := { stood := { row := kindsBackUptoRow, standIns := [], harness := (true, "aaf5204c617b0a7a6e2f335f8ff907610e0ca0dfb1242ce9248e492eba2808ae"), looks := false }, kinds := [], alts := [], laidByText := true, laidKinds := [.data], laidTests := true, laidLooks := .later }
def KindsBackUptoCardSaid : Prop := Claim7.holds Tryd.pinned (.plain (OpenSpec.upto kindsBackSpec)) kindsBackUptoCard
end Rows
end Go.Proofs.YtnokjainniihkaaDoor
