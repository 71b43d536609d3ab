/-
  NARROWER THAN 'FOR EVERY INPUT', by the rows' own cells (each row's printed sentence says how): InvertOf: loops · InvertTwice: loops · InvertSteps: loops.
  DERIVED. THE GIVEN ROWS OF THIS SEAT. 3 by the template 'for every input the law returns true; each argument reads behind the call as it read before'; 0 by the template 'total and deterministic' (their statements: YtecfdcdkkgmkpaaTotals.lean).
  GIVEN WITH THE SEED: the statements are not yours to turn. If you find one false, say at which input.
  Laid BY PROGRAM, IN A SANDBOX (cutbox-rows.mjs): the forced cells as the released guide's own fill.sh prints them over the translation 4897464eac353dca… (all of the seat's roots in one cut). By AI agents, Wed Nov 11 2026. No macro, syntax, notation, axiom, sorry.
-/
import Derived.Test.YtecfdcdkkgmkpaaChecked
import GoSem.Claim
import GoSem.ClaimJoined
import GoSem.ClaimMapViews
import Derived.JoinedTies
import Derived.KernelRfl
namespace Go.Proofs.Ytecfdcdkkgmkpaa
/- THE CELL 'sum', in the pinned program and in every row, IS THE sha256 OF THE DUMP (.gsa) THAT YtecfdcdkkgmkpaaProg.lean LOADS. Nothing in Lean hashes anything: it is a label: what it is worth is what the hold of that sum in a sandbox is worth. -/
noncomputable def Try.pinned : Pinned := { name := "ytecfdcdkkgmkpaa", sum := "4897464eac353dcaef0ea766e600884ebf8bf0058b76b738ebdf58ecbecc7a60", checked := Try.checked }
namespace Rows
def none {H : Type} : Left H := { results := [], args := [] }

/-- 'redlinelaw22.InvertOf': WHATEVER THE INPUT: true; the input reads as it did. -/
def invertOfSpec : ChangeSpec := { name := "invertOf", fn := fun _ => fun
  | [d] => { results := [.lit (.bool true)], args := [d] }
  | _ => none }
def invertOfRow : OpenClaim := { program := "ytecfdcdkkgmkpaa", sum := "4897464eac353dcaef0ea766e600884ebf8bf0058b76b738ebdf58ecbecc7a60", func := "redline/redlinelaw22.InvertOf", spec := "invertOf", inPlace := ["internal/bytealg.abigen_runtime_cmpstring"], unfollowed := true, recurses := true, loops := true, apart := false }
def InvertOfSaid : Prop := invertOfRow.holds Try.pinned (OpenSpec.ofChange invertOfSpec)

/-- ITS FALSE NEIGHBOUR: 'it returns false'. Refute it at one input. -/
def invertOfWrong : ChangeSpec := { name := "invertOf", fn := fun _ => fun
  | [d] => { results := [.lit (.bool false)], args := [d] }
  | _ => none }
def InvertOfWrongFalsely : Prop := invertOfRow.holds Try.pinned (OpenSpec.ofChange invertOfWrong)

/-- 'redlinelaw22.InvertTwice': WHATEVER THE INPUT: true; the input reads as it did. -/
def invertTwiceSpec : ChangeSpec := { name := "invertTwice", fn := fun _ => fun
  | [d] => { results := [.lit (.bool true)], args := [d] }
  | _ => none }
def invertTwiceRow : OpenClaim := { program := "ytecfdcdkkgmkpaa", sum := "4897464eac353dcaef0ea766e600884ebf8bf0058b76b738ebdf58ecbecc7a60", func := "redline/redlinelaw22.InvertTwice", spec := "invertTwice", inPlace := ["internal/bytealg.abigen_runtime_cmpstring"], unfollowed := true, recurses := true, loops := true, apart := false }
def InvertTwiceSaid : Prop := invertTwiceRow.holds Try.pinned (OpenSpec.ofChange invertTwiceSpec)

/-- ITS FALSE NEIGHBOUR: 'it returns false'. Refute it at one input. -/
def invertTwiceWrong : ChangeSpec := { name := "invertTwice", fn := fun _ => fun
  | [d] => { results := [.lit (.bool false)], args := [d] }
  | _ => none }
def InvertTwiceWrongFalsely : Prop := invertTwiceRow.holds Try.pinned (OpenSpec.ofChange invertTwiceWrong)

/-- 'redlinelaw22.InvertSteps': WHATEVER THE INPUT: true; the input reads as it did. -/
def invertStepsSpec : ChangeSpec := { name := "invertSteps", fn := fun _ => fun
  | [d] => { results := [.lit (.bool true)], args := [d] }
  | _ => none }
def invertStepsRow : OpenClaim := { program := "ytecfdcdkkgmkpaa", sum := "4897464eac353dcaef0ea766e600884ebf8bf0058b76b738ebdf58ecbecc7a60", func := "redline/redlinelaw22.InvertSteps", spec := "invertSteps", inPlace := ["internal/bytealg.abigen_runtime_cmpstring"], unfollowed := true, recurses := true, loops := true, apart := false }
def InvertStepsSaid : Prop := invertStepsRow.holds Try.pinned (OpenSpec.ofChange invertStepsSpec)

/-- ITS FALSE NEIGHBOUR: 'it returns false'. Refute it at one input. -/
def invertStepsWrong : ChangeSpec := { name := "invertSteps", fn := fun _ => fun
  | [d] => { results := [.lit (.bool false)], args := [d] }
  | _ => none }
def InvertStepsWrongFalsely : Prop := invertStepsRow.holds Try.pinned (OpenSpec.ofChange invertStepsWrong)

/- THE SECOND FORM. 'bulk': how many values and letters a reading holds, each counted each time it is reached (what is shared counts as often as it is met; a slice's spare places count too). A statement '..UptoSaid' is the law's where the arguments, and the package variables that the reading takes, are together of bulk at most 1048576: NARROWER than '..Said'. Prove '..Said' where nothing that the law and all that it calls make is longer than what came in: it says more and counts as full. Else prove '..UptoSaid'. A law counts once. -/
mutual
def uptoBulk {H : Type} : DataW H → Nat
  | .lit (.string bytes) => bytes.length + 1
  | .lit _ => 1
  | .nil => 1
  | .ptr d => uptoBulk d + 1
  | .slice elems spare => uptoBulkAll elems + uptoBulkAll spare + 1
  | .agg parts => uptoBulkAll parts + 1
  | .iface _ d => uptoBulk d + 1
  | .map entries => uptoBulkEntries entries + 1
  | .held _ => 1
def uptoBulkAll {H : Type} : List (DataW H) → Nat
  | [] => 0
  | d :: r => uptoBulk d + uptoBulkAll r
def uptoBulkEntries {H : Type} : List (Lit × DataW H) → Nat
  | [] => 0
  | x :: r => uptoBulkEntry x + uptoBulkEntries r
def uptoBulkEntry {H : Type} : Lit × DataW H → Nat
  | (.string bytes, d) => bytes.length + uptoBulk d + 1
  | (_, d) => uptoBulk d + 1
 end
def uptoSmall : (H : Type) → List (DataW H) → Bool := fun _ ds => decide (uptoBulkAll ds ≤ 1048576)
def OpenSpec.upto (s : _root_.Go.ChangeSpec) : _root_.Go.OpenSpec := { _root_.Go.OpenSpec.ofChange s with cond := some uptoSmall }

/-- 'redlinelaw22.InvertOf', WHERE WHAT IT READS IS OF BULK AT MOST 1048576: true; the input reads as it did. -/
def invertOfUptoRow : OpenClaim := { program := "ytecfdcdkkgmkpaa", sum := "4897464eac353dcaef0ea766e600884ebf8bf0058b76b738ebdf58ecbecc7a60", func := "redline/redlinelaw22.InvertOf", spec := "invertOf", inPlace := ["internal/bytealg.abigen_runtime_cmpstring"], unfollowed := true, recurses := true, loops := true, apart := false, narrowed := true }
def InvertOfUptoSaid : Prop := invertOfUptoRow.holds Try.pinned (OpenSpec.upto invertOfSpec)

/-- 'redlinelaw22.InvertTwice', WHERE WHAT IT READS IS OF BULK AT MOST 1048576: true; the input reads as it did. -/
def invertTwiceUptoRow : OpenClaim := { program := "ytecfdcdkkgmkpaa", sum := "4897464eac353dcaef0ea766e600884ebf8bf0058b76b738ebdf58ecbecc7a60", func := "redline/redlinelaw22.InvertTwice", spec := "invertTwice", inPlace := ["internal/bytealg.abigen_runtime_cmpstring"], unfollowed := true, recurses := true, loops := true, apart := false, narrowed := true }
def InvertTwiceUptoSaid : Prop := invertTwiceUptoRow.holds Try.pinned (OpenSpec.upto invertTwiceSpec)

/-- 'redlinelaw22.InvertSteps', WHERE WHAT IT READS IS OF BULK AT MOST 1048576: true; the input reads as it did. -/
def invertStepsUptoRow : OpenClaim := { program := "ytecfdcdkkgmkpaa", sum := "4897464eac353dcaef0ea766e600884ebf8bf0058b76b738ebdf58ecbecc7a60", func := "redline/redlinelaw22.InvertSteps", spec := "invertSteps", inPlace := ["internal/bytealg.abigen_runtime_cmpstring"], unfollowed := true, recurses := true, loops := true, apart := false, narrowed := true }
def InvertStepsUptoSaid : Prop := invertStepsUptoRow.holds Try.pinned (OpenSpec.upto invertStepsSpec)

end Rows
end Go.Proofs.Ytecfdcdkkgmkpaa
