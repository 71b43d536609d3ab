/-
  NARROWER THAN 'FOR EVERY INPUT', by the rows' own cells (each row's printed sentence says how): KindsTell: laid · KindsFit: laid · KindsBack: laid.
  DERIVED. THE GIVEN ROWS OF THIS SEAT. 3 by the template 'for every input the law returns true; each argument reads behind the call as it read before'; 0 by the template 'total and deterministic' (their statements: YtnokjainniihkaaDoorTotals.lean).
  GIVEN WITH THE SEED: the statements are not yours to turn. If you find one false, say at which input.
  Laid BY PROGRAM, IN A SANDBOX (cutbox-rows.mjs): the forced cells as the released guide's own fill.sh prints them over the translation e81d75bdfec1abce… (all of the seat's roots in one cut). By AI agents, Wed Nov 11 2026. No macro, syntax, notation, axiom, sorry.
-/
import Derived.Test.YtnokjainniihkaaDoorChecked
import GoSem.Claim
import GoSem.ClaimJoined
import GoSem.ClaimMapViews
import Derived.JoinedTies
import Derived.KernelRfl
namespace Go.Proofs.YtnokjainniihkaaDoor
/- THE CELL 'sum', in the pinned program and in every row, IS THE sha256 OF THE DUMP (.gsa) THAT YtnokjainniihkaaDoorProg.lean LOADS. Nothing in Lean hashes anything: it is a label: what it is worth is what the hold of that sum in a sandbox is worth. -/
noncomputable def Tryd.pinned : Pinned := { name := "ytnokjainniihkaadoor", sum := "e81d75bdfec1abcea8e5e7319a831e65140c3f6440b524d35daaa65f05c6d613", checked := Tryd.checked }
namespace Rows
def none {H : Type} : Left H := { results := [], args := [] }

/- WHAT THE LISTED PACKAGE-LEVEL VARIABLES READ AS WHEN THE CALL BEGINS. Each datum BY PROGRAM (the guide's laid-datum.mjs) off the statement by which the dump's own 'gosem.cut.vars' lays the variable. In a bare row this is a premise. The card (YtnokjainniihkaaDoorCards.lean) ties it to the program's text. -/
def laid_redline_kinds_rows {H : Type} : DataW H := .agg [.agg [.lit (.string []), .lit (.int .i64 (-1)), .lit (.bool false), .lit (.bool false)], .agg [.lit (.string [100, 111, 117, 98, 108, 101]), .lit (.int .i64 1), .lit (.bool true), .lit (.bool false)], .agg [.lit (.string [102, 108, 111, 97, 116]), .lit (.int .i64 5), .lit (.bool true), .lit (.bool false)], .agg [.lit (.string [105, 110, 116, 51, 50]), .lit (.int .i64 0), .lit (.bool true), .lit (.bool true)], .agg [.lit (.string [105, 110, 116, 54, 52]), .lit (.int .i64 0), .lit (.bool true), .lit (.bool true)], .agg [.lit (.string [117, 105, 110, 116, 51, 50]), .lit (.int .i64 0), .lit (.bool true), .lit (.bool true)], .agg [.lit (.string [117, 105, 110, 116, 54, 52]), .lit (.int .i64 0), .lit (.bool true), .lit (.bool true)], .agg [.lit (.string [115, 105, 110, 116, 51, 50]), .lit (.int .i64 0), .lit (.bool true), .lit (.bool true)], .agg [.lit (.string [115, 105, 110, 116, 54, 52]), .lit (.int .i64 0), .lit (.bool true), .lit (.bool true)], .agg [.lit (.string [102, 105, 120, 101, 100, 51, 50]), .lit (.int .i64 5), .lit (.bool true), .lit (.bool true)], .agg [.lit (.string [102, 105, 120, 101, 100, 54, 52]), .lit (.int .i64 1), .lit (.bool true), .lit (.bool true)], .agg [.lit (.string [115, 102, 105, 120, 101, 100, 51, 50]), .lit (.int .i64 5), .lit (.bool true), .lit (.bool true)], .agg [.lit (.string [115, 102, 105, 120, 101, 100, 54, 52]), .lit (.int .i64 1), .lit (.bool true), .lit (.bool true)], .agg [.lit (.string [98, 111, 111, 108]), .lit (.int .i64 0), .lit (.bool true), .lit (.bool true)], .agg [.lit (.string [115, 116, 114, 105, 110, 103]), .lit (.int .i64 2), .lit (.bool false), .lit (.bool true)], .agg [.lit (.string [98, 121, 116, 101, 115]), .lit (.int .i64 2), .lit (.bool false), .lit (.bool false)], .agg [.lit (.string [101, 110, 117, 109]), .lit (.int .i64 0), .lit (.bool true), .lit (.bool false)], .agg [.lit (.string [109, 101, 115, 115, 97, 103, 101]), .lit (.int .i64 2), .lit (.bool false), .lit (.bool false)]]

/-- 'redlinelaw10.KindsTell': WHATEVER THE INPUT: true; the input reads as it did. -/
def kindsTellSpec : ChangeSpec := { name := "kindsTell", fn := fun _ => fun
  | [d1, d2] => { results := [.lit (.bool true)], args := [d1, d2] }
  | _ => none }
def kindsTellRow : OpenClaim := { program := "ytnokjainniihkaadoor", sum := "e81d75bdfec1abcea8e5e7319a831e65140c3f6440b524d35daaa65f05c6d613", func := "redline/redlinelaw10.KindsTell", spec := "kindsTell", unfollowed := true, recurses := true, named := ["redline/kinds.rows"], apart := false, laid := [("redline/kinds.rows", laid_redline_kinds_rows)] }
def KindsTellSaid : Prop := kindsTellRow.holds Tryd.pinned (OpenSpec.ofChange kindsTellSpec)

/-- ITS FALSE NEIGHBOUR: 'it returns false'. Refute it at one input. -/
def kindsTellWrong : ChangeSpec := { name := "kindsTell", fn := fun _ => fun
  | [d1, d2] => { results := [.lit (.bool false)], args := [d1, d2] }
  | _ => none }
def KindsTellWrongFalsely : Prop := kindsTellRow.holds Tryd.pinned (OpenSpec.ofChange kindsTellWrong)

/-- 'redlinelaw10.KindsFit': WHATEVER THE INPUT: true; the input reads as it did. -/
def kindsFitSpec : ChangeSpec := { name := "kindsFit", fn := fun _ => fun
  | [d1, d2] => { results := [.lit (.bool true)], args := [d1, d2] }
  | _ => none }
def kindsFitRow : OpenClaim := { program := "ytnokjainniihkaadoor", sum := "e81d75bdfec1abcea8e5e7319a831e65140c3f6440b524d35daaa65f05c6d613", func := "redline/redlinelaw10.KindsFit", spec := "kindsFit", unfollowed := true, recurses := true, named := ["redline/kinds.rows"], apart := false, laid := [("redline/kinds.rows", laid_redline_kinds_rows)] }
def KindsFitSaid : Prop := kindsFitRow.holds Tryd.pinned (OpenSpec.ofChange kindsFitSpec)

/-- ITS FALSE NEIGHBOUR: 'it returns false'. Refute it at one input. -/
def kindsFitWrong : ChangeSpec := { name := "kindsFit", fn := fun _ => fun
  | [d1, d2] => { results := [.lit (.bool false)], args := [d1, d2] }
  | _ => none }
def KindsFitWrongFalsely : Prop := kindsFitRow.holds Tryd.pinned (OpenSpec.ofChange kindsFitWrong)

/-- 'redlinelaw10.KindsBack': WHATEVER THE INPUT: true; the input reads as it did. -/
def kindsBackSpec : ChangeSpec := { name := "kindsBack", fn := fun _ => fun
  | [d1, d2] => { results := [.lit (.bool true)], args := [d1, d2] }
  | _ => none }
def kindsBackRow : OpenClaim := { program := "ytnokjainniihkaadoor", sum := "e81d75bdfec1abcea8e5e7319a831e65140c3f6440b524d35daaa65f05c6d613", func := "redline/redlinelaw10.KindsBack", spec := "kindsBack", unfollowed := true, recurses := true, named := ["redline/kinds.rows"], apart := false, laid := [("redline/kinds.rows", laid_redline_kinds_rows)] }
def KindsBackSaid : Prop := kindsBackRow.holds Tryd.pinned (OpenSpec.ofChange kindsBackSpec)

/-- ITS FALSE NEIGHBOUR: 'it returns false'. Refute it at one input. -/
def kindsBackWrong : ChangeSpec := { name := "kindsBack", fn := fun _ => fun
  | [d1, d2] => { results := [.lit (.bool false)], args := [d1, d2] }
  | _ => none }
def KindsBackWrongFalsely : Prop := kindsBackRow.holds Tryd.pinned (OpenSpec.ofChange kindsBackWrong)

/- THE SECOND FORM. 'bulk': how many values and letters a reading holds, each counted each time it is reached (what is shared counts as often as it is met; a slice's spare places count too). A statement '..UptoSaid' is the law's where the arguments, and the package variables that the reading takes, are together of bulk at most 1048576: NARROWER than '..Said'. Prove '..Said' where nothing that the law and all that it calls make is longer than what came in: it says more and counts as full. Else prove '..UptoSaid'. A law counts once. -/
mutual
def uptoBulk {H : Type} : DataW H → Nat
  | .lit (.string bytes) => bytes.length + 1
  | .lit _ => 1
  | .nil => 1
  | .ptr d => uptoBulk d + 1
  | .slice elems spare => uptoBulkAll elems + uptoBulkAll spare + 1
  | .agg parts => uptoBulkAll parts + 1
  | .iface _ d => uptoBulk d + 1
  | .map entries => uptoBulkEntries entries + 1
  | .held _ => 1
def uptoBulkAll {H : Type} : List (DataW H) → Nat
  | [] => 0
  | d :: r => uptoBulk d + uptoBulkAll r
def uptoBulkEntries {H : Type} : List (Lit × DataW H) → Nat
  | [] => 0
  | x :: r => uptoBulkEntry x + uptoBulkEntries r
def uptoBulkEntry {H : Type} : Lit × DataW H → Nat
  | (.string bytes, d) => bytes.length + uptoBulk d + 1
  | (_, d) => uptoBulk d + 1
 end
def uptoSmall : (H : Type) → List (DataW H) → Bool := fun _ ds => decide (uptoBulkAll ds ≤ 1048576)
def OpenSpec.upto (s : _root_.Go.ChangeSpec) : _root_.Go.OpenSpec := { _root_.Go.OpenSpec.ofChange s with cond := some uptoSmall }

/-- 'redlinelaw10.KindsTell', WHERE WHAT IT READS IS OF BULK AT MOST 1048576: true; the input reads as it did. -/
def kindsTellUptoRow : OpenClaim := { program := "ytnokjainniihkaadoor", sum := "e81d75bdfec1abcea8e5e7319a831e65140c3f6440b524d35daaa65f05c6d613", func := "redline/redlinelaw10.KindsTell", spec := "kindsTell", unfollowed := true, recurses := true, named := ["redline/kinds.rows"], apart := false, laid := [("redline/kinds.rows", laid_redline_kinds_rows)], narrowed := true }
def KindsTellUptoSaid : Prop := kindsTellUptoRow.holds Tryd.pinned (OpenSpec.upto kindsTellSpec)

/-- 'redlinelaw10.KindsFit', WHERE WHAT IT READS IS OF BULK AT MOST 1048576: true; the input reads as it did. -/
def kindsFitUptoRow : OpenClaim := { program := "ytnokjainniihkaadoor", sum := "e81d75bdfec1abcea8e5e7319a831e65140c3f6440b524d35daaa65f05c6d613", func := "redline/redlinelaw10.KindsFit", spec := "kindsFit", unfollowed := true, recurses := true, named := ["redline/kinds.rows"], apart := false, laid := [("redline/kinds.rows", laid_redline_kinds_rows)], narrowed := true }
def KindsFitUptoSaid : Prop := kindsFitUptoRow.holds Tryd.pinned (OpenSpec.upto kindsFitSpec)

/-- 'redlinelaw10.KindsBack', WHERE WHAT IT READS IS OF BULK AT MOST 1048576: true; the input reads as it did. -/
def kindsBackUptoRow : OpenClaim := { program := "ytnokjainniihkaadoor", sum := "e81d75bdfec1abcea8e5e7319a831e65140c3f6440b524d35daaa65f05c6d613", func := "redline/redlinelaw10.KindsBack", spec := "kindsBack", unfollowed := true, recurses := true, named := ["redline/kinds.rows"], apart := false, laid := [("redline/kinds.rows", laid_redline_kinds_rows)], narrowed := true }
def KindsBackUptoSaid : Prop := kindsBackUptoRow.holds Tryd.pinned (OpenSpec.upto kindsBackSpec)

end Rows
end Go.Proofs.YtnokjainniihkaaDoor
