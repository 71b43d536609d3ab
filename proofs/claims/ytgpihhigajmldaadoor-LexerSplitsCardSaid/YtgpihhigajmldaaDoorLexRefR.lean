/- What redlineref07.Split answers where a text's tokens are these; and its answer for a text that is too long. No condition. -/
import Derived.Test.YtgpihhigajmldaaDoorProg
import Derived.Test.YtgpihhigajmldaaDoorLexSkip
namespace Go.Proofs.YtgpihhigajmldaaDoor
open Go.RowKit

/-- What the reference's Split answers where the text's tokens are these. -/
def RefSplitR (w : World) (l : List UInt8) (ts : List (Tok × Nat)) (b ea : Nat) (e : Ending) (w' : World) : Prop :=
  Below w.heap.size w w' ∧ ((b = 0 ∧ ∃ v, e = .returned (.tuple #[v, .int .i64 0, .int .i64 0, .int .i64 0]) ∧ w'.ownsRow w.heap.size 35 5 v (ts.map (tokRow l)).length (ts.map (tokRow l)).flatten) ∨
    (b ≠ 0 ∧ e = .returned (.tuple #[.slice none 0 0, .int .i64 (b : Int), .int .i64 ((placeAt l ea).1 : Int), .int .i64 ((placeAt l ea).2 : Int)])))
theorem infoRTok : (Tryd.prog.info? 35).map (fun i => (i.zero, i.size, i.bytes)) = some (some (.agg #[.int .i64 0, .string .empty, .int .i64 0, .int .i64 0, .int .i64 0]), 5, 48) := by kernel_rfl

set_option maxRecDepth 100000 in
theorem refSplit_long (w : World) (l : List UInt8) (hl : 4000 < l.length) :
    Calls Tryd.prog 8 #[.string (str l)] w fun e w' => e = .returned (.tuple #[.slice none 0 0, .int .i64 3, .int .i64 0, .int .i64 0]) ∧ Below w.heap.size w w' := by
  have hz : (str l).size = l.length := strSize l
  have hlen : (4000 : Int) < (l.length : Int) := by omega
  go_enter Tryd.func8, Tryd.ntmps8
  go_wp2_with fail
  refine bodyPost_ret (results_tmp4 rfl _ _ _) rfl ⟨rfl, Below.refl _ _⟩
end Go.Proofs.YtgpihhigajmldaaDoor
