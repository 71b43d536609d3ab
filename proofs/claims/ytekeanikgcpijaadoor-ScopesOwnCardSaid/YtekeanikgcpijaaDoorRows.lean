/-
  NARROWER THAN 'FOR EVERY INPUT', by the rows' own cells (each row's printed sentence says how): ScopesOwn: laid.
  DERIVED. THE GIVEN ROWS OF THIS SEAT. 1 by the template 'for every input the law returns true; each argument reads behind the call as it read before'; 0 by the template 'total and deterministic' (their statements: YtekeanikgcpijaaDoorTotals.lean).
  GIVEN WITH THE SEED: the statements are not yours to turn. If you find one false, say at which input.
  Laid BY PROGRAM, IN A SANDBOX (cutbox-rows.mjs): the forced cells as the released guide's own fill.sh prints them over the translation 59fd2681c5995ea0… (all of the seat's roots in one cut). By AI agents, Wed Nov 11 2026. No macro, syntax, notation, axiom, sorry.
-/
import Derived.Test.YtekeanikgcpijaaDoorChecked
import GoSem.Claim
import GoSem.ClaimJoined
import GoSem.ClaimMapViews
import Derived.JoinedTies
import Derived.KernelRfl
namespace Go.Proofs.YtekeanikgcpijaaDoor
/- THE CELL 'sum', in the pinned program and in every row, IS THE sha256 OF THE DUMP (.gsa) THAT YtekeanikgcpijaaDoorProg.lean LOADS. Nothing in Lean hashes anything: it is a label: what it is worth is what the hold of that sum in a sandbox is worth. -/
noncomputable def Tryd.pinned : Pinned := { name := "ytekeanikgcpijaadoor", sum := "59fd2681c5995ea0e6850d9a0b602f7f521b783bc2c52c54f0bc5b9f03d3ef84", checked := Tryd.checked }
namespace Rows
def none {H : Type} : Left H := { results := [], args := [] }

/- WHAT THE LISTED PACKAGE-LEVEL VARIABLES READ AS WHEN THE CALL BEGINS. Each datum BY PROGRAM (the guide's laid-datum.mjs) off the statement by which the dump's own 'gosem.cut.vars' lays the variable. In a bare row this is a premise. The card (YtekeanikgcpijaaDoorCards.lean) ties it to the program's text. -/
def laid_redline_api_ErrRange {H : Type} : DataW H := .iface "*errors.errorString" (.ptr (.agg [.lit (.string [97, 32, 110, 117, 109, 98, 101, 114, 32, 105, 115, 32, 111, 117, 116, 32, 111, 102, 32, 105, 116, 115, 32, 114, 97, 110, 103, 101])]))
def laid_redline_api_ErrLong {H : Type} : DataW H := .iface "*errors.errorString" (.ptr (.agg [.lit (.string [116, 104, 101, 114, 101, 32, 105, 115, 32, 109, 111, 114, 101, 32, 116, 104, 97, 110, 32, 109, 97, 121, 32, 98, 101])]))
def laid_redline_api_ErrDepth {H : Type} : DataW H := .iface "*errors.errorString" (.ptr (.agg [.lit (.string [105, 116, 32, 103, 111, 101, 115, 32, 116, 111, 111, 32, 100, 101, 101, 112])]))
def laid_redline_api_ErrForm {H : Type} : DataW H := .iface "*errors.errorString" (.ptr (.agg [.lit (.string [105, 116, 32, 105, 115, 32, 110, 111, 116, 32, 111, 102, 32, 105, 116, 115, 32, 102, 111, 114, 109])]))
def laid_redline_api_ErrDup {H : Type} : DataW H := .iface "*errors.errorString" (.ptr (.agg [.lit (.string [105, 116, 32, 105, 115, 32, 116, 104, 101, 114, 101, 32, 97, 108, 114, 101, 97, 100, 121])]))

/-- 'redlinelaw09.ScopesOwn': WHATEVER THE INPUT: true; the input reads as it did. -/
def scopesOwnSpec : ChangeSpec := { name := "scopesOwn", fn := fun _ => fun
  | [d1, d2] => { results := [.lit (.bool true)], args := [d1, d2] }
  | _ => none }
def scopesOwnRow : OpenClaim := { program := "ytekeanikgcpijaadoor", sum := "59fd2681c5995ea0e6850d9a0b602f7f521b783bc2c52c54f0bc5b9f03d3ef84", func := "redline/redlinelaw09.ScopesOwn", spec := "scopesOwn", inPlace := ["internal/bytealg.IndexByteString", "internal/bytealg.IndexString", "internal/abi.NoEscape"], unfollowed := true, recurses := true, named := ["redline/api.ErrDup", "redline/api.ErrLong", "redline/api.ErrForm", "internal/bytealg.MaxLen", "redline/api.ErrRange", "redline/api.ErrDepth"], apart := false, laid := [("redline/api.ErrRange", laid_redline_api_ErrRange), ("redline/api.ErrLong", laid_redline_api_ErrLong), ("redline/api.ErrDepth", laid_redline_api_ErrDepth), ("redline/api.ErrForm", laid_redline_api_ErrForm), ("redline/api.ErrDup", laid_redline_api_ErrDup)] }
def ScopesOwnSaid : Prop := scopesOwnRow.holds Tryd.pinned (OpenSpec.ofChange scopesOwnSpec)

/-- ITS FALSE NEIGHBOUR: 'it returns false'. Refute it at one input. -/
def scopesOwnWrong : ChangeSpec := { name := "scopesOwn", fn := fun _ => fun
  | [d1, d2] => { results := [.lit (.bool false)], args := [d1, d2] }
  | _ => none }
def ScopesOwnWrongFalsely : Prop := scopesOwnRow.holds Tryd.pinned (OpenSpec.ofChange scopesOwnWrong)

/- THE SECOND FORM. 'bulk': how many values and letters a reading holds, each counted each time it is reached (what is shared counts as often as it is met; a slice's spare places count too). A statement '..UptoSaid' is the law's where the arguments, and the package variables that the reading takes, are together of bulk at most 1048576: NARROWER than '..Said'. Prove '..Said' where nothing that the law and all that it calls make is longer than what came in: it says more and counts as full. Else prove '..UptoSaid'. A law counts once. -/
mutual
def uptoBulk {H : Type} : DataW H → Nat
  | .lit (.string bytes) => bytes.length + 1
  | .lit _ => 1
  | .nil => 1
  | .ptr d => uptoBulk d + 1
  | .slice elems spare => uptoBulkAll elems + uptoBulkAll spare + 1
  | .agg parts => uptoBulkAll parts + 1
  | .iface _ d => uptoBulk d + 1
  | .map entries => uptoBulkEntries entries + 1
  | .held _ => 1
def uptoBulkAll {H : Type} : List (DataW H) → Nat
  | [] => 0
  | d :: r => uptoBulk d + uptoBulkAll r
def uptoBulkEntries {H : Type} : List (Lit × DataW H) → Nat
  | [] => 0
  | x :: r => uptoBulkEntry x + uptoBulkEntries r
def uptoBulkEntry {H : Type} : Lit × DataW H → Nat
  | (.string bytes, d) => bytes.length + uptoBulk d + 1
  | (_, d) => uptoBulk d + 1
 end
def uptoSmall : (H : Type) → List (DataW H) → Bool := fun _ ds => decide (uptoBulkAll ds ≤ 1048576)
def OpenSpec.upto (s : _root_.Go.ChangeSpec) : _root_.Go.OpenSpec := { _root_.Go.OpenSpec.ofChange s with cond := some uptoSmall }

/-- 'redlinelaw09.ScopesOwn', WHERE WHAT IT READS IS OF BULK AT MOST 1048576: true; the input reads as it did. -/
def scopesOwnUptoRow : OpenClaim := { program := "ytekeanikgcpijaadoor", sum := "59fd2681c5995ea0e6850d9a0b602f7f521b783bc2c52c54f0bc5b9f03d3ef84", func := "redline/redlinelaw09.ScopesOwn", spec := "scopesOwn", inPlace := ["internal/bytealg.IndexByteString", "internal/bytealg.IndexString", "internal/abi.NoEscape"], unfollowed := true, recurses := true, named := ["redline/api.ErrDup", "redline/api.ErrLong", "redline/api.ErrForm", "internal/bytealg.MaxLen", "redline/api.ErrRange", "redline/api.ErrDepth"], apart := false, laid := [("redline/api.ErrRange", laid_redline_api_ErrRange), ("redline/api.ErrLong", laid_redline_api_ErrLong), ("redline/api.ErrDepth", laid_redline_api_ErrDepth), ("redline/api.ErrForm", laid_redline_api_ErrForm), ("redline/api.ErrDup", laid_redline_api_ErrDup)], narrowed := true }
def ScopesOwnUptoSaid : Prop := scopesOwnUptoRow.holds Tryd.pinned (OpenSpec.upto scopesOwnSpec)

end Rows
end Go.Proofs.YtekeanikgcpijaaDoor
