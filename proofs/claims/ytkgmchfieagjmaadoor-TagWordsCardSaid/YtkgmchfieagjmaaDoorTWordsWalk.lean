/- The walk of TagWords: for every number the answer is true, and nothing that was there turns. No condition. -/
import Derived.Test.YtkgmchfieagjmaaDoorProg
import Derived.Test.YtkgmchfieagjmaaDoorMem
import Derived.Test.YtkgmchfieagjmaaDoorTag
import Derived.Test.YtkgmchfieagjmaaDoorAlive03
namespace Go.Proofs.YtkgmchfieagjmaaDoor
open Go.RowKit

set_option maxRecDepth 100000 in
set_option maxHeartbeats 1000000 in
theorem twords_any (w : World) (k : Int) :
    Calls Tryd.prog 5 #[.int .i64 k] w fun e w' => e = .returned (.bool true) ∧ Below w.heap.size w w' := by
  go_enter Tryd.func5, Tryd.ntmps5
  go_wp2_with fail
  refine (alive03_any w).mono ?_
  rintro e w1 ⟨rfl, hb1⟩
  by_cases hk : 0 ≤ k ∧ k ≤ 5
  · rcases (show k = 0 ∨ k = 1 ∨ k = 2 ∨ k = 3 ∨ k = 4 ∨ k = 5 by omega) with rfl | rfl | rfl | rfl | rfl | rfl
    all_goals
      clear hk
      go_wp2_with fail
      refine (tagName_any _ _).mono ?_
      rintro e w2 ⟨rfl, rfl⟩
      go_wp2_with fail
      go_ret
      exact ⟨congrArg (fun b => Ending.returned (Value.bool b)) (by decide +kernel), hb1.alloc hb1.size _⟩
  · have hw : wordOf k = #[] := by unfold wordOf; rw [if_neg (by omega), if_neg (by omega), if_neg (by omega), if_neg (by omega)]
    rcases (show k < 0 ∨ (0 ≤ k ∧ 5 < k) by omega) with h | ⟨h, h'⟩
    all_goals
      clear hk
      go_wp2_with fail
      refine (tagName_any _ _).mono ?_
      rintro e w2 ⟨rfl, rfl⟩
      rw [hw]
      go_wp2_with fail
      go_ret
      exact ⟨rfl, hb1⟩
end Go.Proofs.YtkgmchfieagjmaaDoor
