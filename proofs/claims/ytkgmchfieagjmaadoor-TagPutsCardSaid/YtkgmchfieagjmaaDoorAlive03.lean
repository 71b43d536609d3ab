/- The contract of redlinelaw03's example: it answers true, and nothing that was there turns. No condition. -/
import Derived.Test.YtkgmchfieagjmaaDoorProg
import Derived.Test.YtkgmchfieagjmaaDoorMem
import Derived.Test.YtkgmchfieagjmaaDoorTag
namespace Go.Proofs.YtkgmchfieagjmaaDoor
open Go.RowKit

theorem vput10 : vput (tword 1 2) = [10] := by
  rw [show tword 1 2 = 10 by decide, vput_small (by decide)]
  decide

set_option maxRecDepth 100000 in
set_option maxHeartbeats 1000000 in
theorem alive03_any (w : World) : Calls Tryd.prog 6 #[] w fun e w' => e = .returned (.bool true) ∧ Below w.heap.size w w' := by
  have HP := tagPut_ok w 1 2 (by decide)
  rw [vput10] at HP
  unfold tagV at HP
  go_enter Tryd.func6, Tryd.ntmps6
  go_wp2_with fail
  refine HP.mono ?_
  rintro e w1 ⟨v, rfl, hown, hb1⟩
  obtain ⟨q, cq, rfl, hsl, hc, _⟩ := own_sl hown
  clear hown
  obtain ⟨b, o, rfl, hbb, hc0⟩ := hsl.at_ (i := 0) (by simp)
  simp only [List.length_cons, List.length_nil, Nat.zero_add, List.getElem_cons_zero, Nat.add_zero] at hc0 hc
  go_wp2_with fail
  refine (tagName_any w1 5).mono ?_
  rintro e w2 ⟨rfl, rfl⟩
  rw [show wordOf 5 = #[102, 105, 120, 101, 100, 51, 50] from rfl]
  go_wp2_with fail
  go_ret
  exact ⟨rfl, hb1⟩
end Go.Proofs.YtkgmchfieagjmaaDoor
