/-
  DERIVED. GIVEN WITH THE SEED: THE CARDS: each row of YtbcokjhmfbfekaaDoorRows.lean that lists a variable, with what it lists TIED to the program's text (the seventh form; the later family's looks); each row that meets fmt, with fmt's text TOLD by the authors' own Lean function (tested against real Go, not proved from fmt's source: count such statements apart). THE CARD IS WHAT COUNTS. Prove the row's statement (the work); the ties are given (YtbcokjhmfbfekaaDoorTie.lean); close each card by the builder's one call (the guide's Derived/Test/ToyasCard.lean, 'card_holds'). Laid BY PROGRAM, IN A SANDBOX (cutbox-door.mjs). By AI agents, Wed Nov 11 2026. No macro, syntax, notation, axiom, sorry.
-/
import Derived.Test.YtbcokjhmfbfekaaDoorRows
import GoSem.ClaimSeven
namespace Go.Proofs.YtbcokjhmfbfekaaDoor
namespace Rows

/-- THE TIED CARD OF 'redlinelaw06.RunesRight'. -/
def runesRightCard : Claim7 := { stood := { row := runesRightRow, standIns := [], harness := (true, "bb7c0f82daa7c09f112d18e13f03ff99c16f35dc9fe293fc07d6f53134575d13"), looks := false }, kinds := [], alts := [], laidByText := true, laidKinds := [.data, .pinned], laidTests := true, laidLooks := .later }
def RunesRightCardSaid : Prop := Claim7.holds Tryd.pinned (.plain (OpenSpec.ofChange runesRightSpec)) runesRightCard

/-- THE TIED CARD OF 'redlinelaw06.RunesClips'. -/
def runesClipsCard : Claim7 := { stood := { row := runesClipsRow, standIns := [], harness := (true, "bb7c0f82daa7c09f112d18e13f03ff99c16f35dc9fe293fc07d6f53134575d13"), looks := false }, kinds := [], alts := [], laidByText := true, laidKinds := [.data, .pinned], laidTests := true, laidLooks := .later }
def RunesClipsCardSaid : Prop := Claim7.holds Tryd.pinned (.plain (OpenSpec.ofChange runesClipsSpec)) runesClipsCard

/-- THE TIED CARD OF 'redlinelaw06.RunesParts'. -/
def runesPartsCard : Claim7 := { stood := { row := runesPartsRow, standIns := [], harness := (true, "bb7c0f82daa7c09f112d18e13f03ff99c16f35dc9fe293fc07d6f53134575d13"), looks := false }, kinds := [], alts := [], laidByText := true, laidKinds := [.data, .pinned], laidTests := true, laidLooks := .later }
def RunesPartsCardSaid : Prop := Claim7.holds Tryd.pinned (.plain (OpenSpec.ofChange runesPartsSpec)) runesPartsCard

/-- THE SECOND FORM's CARD OF 'redlinelaw06.RunesRight'. -/
def runesRightUptoCard : Claim7 := { stood := { row := runesRightUptoRow, standIns := [], harness := (true, "bb7c0f82daa7c09f112d18e13f03ff99c16f35dc9fe293fc07d6f53134575d13"), looks := false }, kinds := [], alts := [], laidByText := true, laidKinds := [.data, .pinned], laidTests := true, laidLooks := .later }
def RunesRightUptoCardSaid : Prop := Claim7.holds Tryd.pinned (.plain (OpenSpec.upto runesRightSpec)) runesRightUptoCard

/-- THE SECOND FORM's CARD OF 'redlinelaw06.RunesClips'. -/
def runesClipsUptoCard : Claim7 := { stood := { row := runesClipsUptoRow, standIns := [], harness := (true, "bb7c0f82daa7c09f112d18e13f03ff99c16f35dc9fe293fc07d6f53134575d13"), looks := false }, kinds := [], alts := [], laidByText := true, laidKinds := [.data, .pinned], laidTests := true, laidLooks := .later }
def RunesClipsUptoCardSaid : Prop := Claim7.holds Tryd.pinned (.plain (OpenSpec.upto runesClipsSpec)) runesClipsUptoCard

/-- THE SECOND FORM's CARD OF 'redlinelaw06.RunesParts'. -/
def runesPartsUptoCard : Claim7 := { stood := { row := runesPartsUptoRow, standIns := [], harness := (true, "bb7c0f82daa7c09f112d18e13f03ff99c16f35dc9fe293fc07d6f53134575d13"), looks := false }, kinds := [], alts := [], laidByText := true, laidKinds := [.data, .pinned], laidTests := true, laidLooks := .later }
def RunesPartsUptoCardSaid : Prop := Claim7.holds Tryd.pinned (.plain (OpenSpec.upto runesPartsSpec)) runesPartsUptoCard
end Rows
end Go.Proofs.YtbcokjhmfbfekaaDoor
