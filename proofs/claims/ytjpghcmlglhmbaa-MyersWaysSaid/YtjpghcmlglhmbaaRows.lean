/-
  No cell of these rows narrows 'for every input' (looked for: loops, veiled, ifaces, maps, wideKeys, modest, calm, conditions, laid).
  DERIVED. THE GIVEN ROWS OF THIS SEAT. 4 by the template 'for every input the law returns true; each argument reads behind the call as it read before'; 0 by the template 'total and deterministic' (their statements: YtjpghcmlglhmbaaTotals.lean).
  GIVEN WITH THE SEED: the statements are not yours to turn. If you find one false, say at which input.
  Laid BY PROGRAM, IN A SANDBOX (cutbox-rows.mjs): the forced cells as the released guide's own fill.sh prints them over the translation 72627ed6906964a6… (all of the seat's roots in one cut). By AI agents, Wed Nov 11 2026. No macro, syntax, notation, axiom, sorry.
-/
import Derived.Test.YtjpghcmlglhmbaaChecked
import GoSem.Claim
import GoSem.ClaimJoined
import GoSem.ClaimMapViews
import Derived.JoinedTies
import Derived.KernelRfl
namespace Go.Proofs.Ytjpghcmlglhmbaa
/- THE CELL 'sum', in the pinned program and in every row, IS THE sha256 OF THE DUMP (.gsa) THAT YtjpghcmlglhmbaaProg.lean LOADS. Nothing in Lean hashes anything: it is a label: what it is worth is what the hold of that sum in a sandbox is worth. -/
noncomputable def Try.pinned : Pinned := { name := "ytjpghcmlglhmbaa", sum := "72627ed6906964a660697abb788978cdc5f16f42c72b3ffe4dbb4c3354986cc9", checked := Try.checked }
namespace Rows
def none {H : Type} : Left H := { results := [], args := [] }

/-- 'redlinelaw19.MyersAligns': WHATEVER THE INPUT: true; the input reads as it did. -/
def myersAlignsSpec : ChangeSpec := { name := "myersAligns", fn := fun _ => fun
  | [d1, d2] => { results := [.lit (.bool true)], args := [d1, d2] }
  | _ => none }
def myersAlignsRow : OpenClaim := { program := "ytjpghcmlglhmbaa", sum := "72627ed6906964a660697abb788978cdc5f16f42c72b3ffe4dbb4c3354986cc9", func := "redline/redlinelaw19.MyersAligns", spec := "myersAligns", apart := false }
def MyersAlignsSaid : Prop := myersAlignsRow.holds Try.pinned (OpenSpec.ofChange myersAlignsSpec)

/-- ITS FALSE NEIGHBOUR: 'it returns false'. Refute it at one input. -/
def myersAlignsWrong : ChangeSpec := { name := "myersAligns", fn := fun _ => fun
  | [d1, d2] => { results := [.lit (.bool false)], args := [d1, d2] }
  | _ => none }
def MyersAlignsWrongFalsely : Prop := myersAlignsRow.holds Try.pinned (OpenSpec.ofChange myersAlignsWrong)

/-- 'redlinelaw19.MyersFar': WHATEVER THE INPUT: true; the input reads as it did. -/
def myersFarSpec : ChangeSpec := { name := "myersFar", fn := fun _ => fun
  | [d1, d2] => { results := [.lit (.bool true)], args := [d1, d2] }
  | _ => none }
def myersFarRow : OpenClaim := { program := "ytjpghcmlglhmbaa", sum := "72627ed6906964a660697abb788978cdc5f16f42c72b3ffe4dbb4c3354986cc9", func := "redline/redlinelaw19.MyersFar", spec := "myersFar", apart := false }
def MyersFarSaid : Prop := myersFarRow.holds Try.pinned (OpenSpec.ofChange myersFarSpec)

/-- ITS FALSE NEIGHBOUR: 'it returns false'. Refute it at one input. -/
def myersFarWrong : ChangeSpec := { name := "myersFar", fn := fun _ => fun
  | [d1, d2] => { results := [.lit (.bool false)], args := [d1, d2] }
  | _ => none }
def MyersFarWrongFalsely : Prop := myersFarRow.holds Try.pinned (OpenSpec.ofChange myersFarWrong)

/-- 'redlinelaw19.MyersWays': WHATEVER THE INPUT: true; the input reads as it did. -/
def myersWaysSpec : ChangeSpec := { name := "myersWays", fn := fun _ => fun
  | [d1, d2, d3] => { results := [.lit (.bool true)], args := [d1, d2, d3] }
  | _ => none }
def myersWaysRow : OpenClaim := { program := "ytjpghcmlglhmbaa", sum := "72627ed6906964a660697abb788978cdc5f16f42c72b3ffe4dbb4c3354986cc9", func := "redline/redlinelaw19.MyersWays", spec := "myersWays", apart := false }
def MyersWaysSaid : Prop := myersWaysRow.holds Try.pinned (OpenSpec.ofChange myersWaysSpec)

/-- ITS FALSE NEIGHBOUR: 'it returns false'. Refute it at one input. -/
def myersWaysWrong : ChangeSpec := { name := "myersWays", fn := fun _ => fun
  | [d1, d2, d3] => { results := [.lit (.bool false)], args := [d1, d2, d3] }
  | _ => none }
def MyersWaysWrongFalsely : Prop := myersWaysRow.holds Try.pinned (OpenSpec.ofChange myersWaysWrong)

/-- 'redlinelaw19.MyersLeast': WHATEVER THE INPUT: true; the input reads as it did. -/
def myersLeastSpec : ChangeSpec := { name := "myersLeast", fn := fun _ => fun
  | [d1, d2, d3] => { results := [.lit (.bool true)], args := [d1, d2, d3] }
  | _ => none }
def myersLeastRow : OpenClaim := { program := "ytjpghcmlglhmbaa", sum := "72627ed6906964a660697abb788978cdc5f16f42c72b3ffe4dbb4c3354986cc9", func := "redline/redlinelaw19.MyersLeast", spec := "myersLeast", apart := false }
def MyersLeastSaid : Prop := myersLeastRow.holds Try.pinned (OpenSpec.ofChange myersLeastSpec)

/-- ITS FALSE NEIGHBOUR: 'it returns false'. Refute it at one input. -/
def myersLeastWrong : ChangeSpec := { name := "myersLeast", fn := fun _ => fun
  | [d1, d2, d3] => { results := [.lit (.bool false)], args := [d1, d2, d3] }
  | _ => none }
def MyersLeastWrongFalsely : Prop := myersLeastRow.holds Try.pinned (OpenSpec.ofChange myersLeastWrong)

/- THE SECOND FORM. 'bulk': how many values and letters a reading holds, each counted each time it is reached (what is shared counts as often as it is met; a slice's spare places count too). A statement '..UptoSaid' is the law's where the arguments, and the package variables that the reading takes, are together of bulk at most 1048576: NARROWER than '..Said'. Prove '..Said' where nothing that the law and all that it calls make is longer than what came in: it says more and counts as full. Else prove '..UptoSaid'. A law counts once. -/
mutual
def uptoBulk {H : Type} : DataW H → Nat
  | .lit (.string bytes) => bytes.length + 1
  | .lit _ => 1
  | .nil => 1
  | .ptr d => uptoBulk d + 1
  | .slice elems spare => uptoBulkAll elems + uptoBulkAll spare + 1
  | .agg parts => uptoBulkAll parts + 1
  | .iface _ d => uptoBulk d + 1
  | .map entries => uptoBulkEntries entries + 1
  | .held _ => 1
def uptoBulkAll {H : Type} : List (DataW H) → Nat
  | [] => 0
  | d :: r => uptoBulk d + uptoBulkAll r
def uptoBulkEntries {H : Type} : List (Lit × DataW H) → Nat
  | [] => 0
  | x :: r => uptoBulkEntry x + uptoBulkEntries r
def uptoBulkEntry {H : Type} : Lit × DataW H → Nat
  | (.string bytes, d) => bytes.length + uptoBulk d + 1
  | (_, d) => uptoBulk d + 1
 end
def uptoSmall : (H : Type) → List (DataW H) → Bool := fun _ ds => decide (uptoBulkAll ds ≤ 1048576)
def OpenSpec.upto (s : _root_.Go.ChangeSpec) : _root_.Go.OpenSpec := { _root_.Go.OpenSpec.ofChange s with cond := some uptoSmall }

/-- 'redlinelaw19.MyersAligns', WHERE WHAT IT READS IS OF BULK AT MOST 1048576: true; the input reads as it did. -/
def myersAlignsUptoRow : OpenClaim := { program := "ytjpghcmlglhmbaa", sum := "72627ed6906964a660697abb788978cdc5f16f42c72b3ffe4dbb4c3354986cc9", func := "redline/redlinelaw19.MyersAligns", spec := "myersAligns", apart := false, narrowed := true }
def MyersAlignsUptoSaid : Prop := myersAlignsUptoRow.holds Try.pinned (OpenSpec.upto myersAlignsSpec)

/-- 'redlinelaw19.MyersFar', WHERE WHAT IT READS IS OF BULK AT MOST 1048576: true; the input reads as it did. -/
def myersFarUptoRow : OpenClaim := { program := "ytjpghcmlglhmbaa", sum := "72627ed6906964a660697abb788978cdc5f16f42c72b3ffe4dbb4c3354986cc9", func := "redline/redlinelaw19.MyersFar", spec := "myersFar", apart := false, narrowed := true }
def MyersFarUptoSaid : Prop := myersFarUptoRow.holds Try.pinned (OpenSpec.upto myersFarSpec)

/-- 'redlinelaw19.MyersWays', WHERE WHAT IT READS IS OF BULK AT MOST 1048576: true; the input reads as it did. -/
def myersWaysUptoRow : OpenClaim := { program := "ytjpghcmlglhmbaa", sum := "72627ed6906964a660697abb788978cdc5f16f42c72b3ffe4dbb4c3354986cc9", func := "redline/redlinelaw19.MyersWays", spec := "myersWays", apart := false, narrowed := true }
def MyersWaysUptoSaid : Prop := myersWaysUptoRow.holds Try.pinned (OpenSpec.upto myersWaysSpec)

/-- 'redlinelaw19.MyersLeast', WHERE WHAT IT READS IS OF BULK AT MOST 1048576: true; the input reads as it did. -/
def myersLeastUptoRow : OpenClaim := { program := "ytjpghcmlglhmbaa", sum := "72627ed6906964a660697abb788978cdc5f16f42c72b3ffe4dbb4c3354986cc9", func := "redline/redlinelaw19.MyersLeast", spec := "myersLeast", apart := false, narrowed := true }
def MyersLeastUptoSaid : Prop := myersLeastUptoRow.holds Try.pinned (OpenSpec.upto myersLeastSpec)

end Rows
end Go.Proofs.Ytjpghcmlglhmbaa
