/- LexerSplits: for every text the answer is true, and nothing that was there turns. Conditions: the errors' variables and the library's variable errors.errorType hold what the texts lay. -/
import Derived.Test.YtgpihhigajmldaaDoorProg
import Derived.Test.YtgpihhigajmldaaDoorSplitsWalk
import Derived.Test.YtgpihhigajmldaaDoorLexRefSplit
namespace Go.Proofs.YtgpihhigajmldaaDoor
open Go.RowKit

theorem splits_any (w : World) (A : Nat → Addr) (m : Int) (hE : Errs w A) (hL : Lx w A m) (hT : ErrT w) (l : List UInt8) :
    Calls Tryd.prog 3 #[.string (str l)] w fun e w' => e = .returned (.bool true) ∧ Below w.heap.size w w' := by
  by_cases hl : l.length ≤ 4000
  · obtain ⟨T, b, ea, hX⟩ := lex_total l l.length 0 (by omega)
    exact splits_in w A m hE hL hT l hl T b ea hX fun u => refSplit_any u l hl T b ea hX
  · exact splits_long w A m hE hL hT l (by omega)
end Go.Proofs.YtgpihhigajmldaaDoor
