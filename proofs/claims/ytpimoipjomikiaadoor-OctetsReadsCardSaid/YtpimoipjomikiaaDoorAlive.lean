/- The contract of redlinelaw01's example: it answers true, and nothing that was there turns. No condition. -/
import Derived.Test.YtpimoipjomikiaaDoorProg
import Derived.Test.YtpimoipjomikiaaDoorMem
import Derived.Test.YtpimoipjomikiaaDoorPut
import Derived.Test.YtpimoipjomikiaaDoorNumber
import Derived.Test.YtpimoipjomikiaaDoorStr
namespace Go.Proofs.YtpimoipjomikiaaDoor
open Go.RowKit

set_option maxHeartbeats 1000000 in
theorem alive_any (w : World) : Calls Tryd.prog 6 #[] w fun e w' => e = .returned (.bool true) ∧ Below w.heap.size w w' := by
  go_enter Tryd.func6, Tryd.ntmps6
  go_wp2_with fail
  refine (put32_any w none [] 0 1 0 (Nat.zero_le _) (by simp) (by omega) (Sl.nil _ _ _)).mono ?_
  rintro e w1 ⟨v, rfl, hown, hb1⟩
  have hle : [] ++ le 1 4 = [1, 0, 0, 0] := by decide
  rw [hle] at hown
  obtain ⟨q, cq, rfl, hsl, hc, _⟩ := own_sl hown
  clear hown hle
  go_wp2_with fail
  refine (newReader_any w1 q [1, 0, 0, 0] cq w1.heap.size (Nat.le_refl _) (by simp) hsl).mono ?_
  rintro e w2 ⟨r, rfl, hr, hrd, hb2⟩
  have hs2 := hsl.below hb2
  obtain ⟨b, o, rfl, hbb, hc0⟩ := hs2.at_ (i := 0) (by simp)
  simp only [List.length_cons, List.length_nil, Nat.zero_add, Nat.reduceAdd, List.getElem_cons_zero, Nat.add_zero] at hc0 hc
  go_wp2_with fail
  refine (fixed32_any w2 r [1, 0, 0, 0] 0 hrd (by simp) (by simp)).mono ?_
  rintro e w3 ⟨rfl, hrd3, hg3⟩
  have hn : num (([1, 0, 0, 0] : List UInt8).drop 0 |>.take 4) = 1 := by decide
  rw [hn]
  clear hn hc0
  go_wp2_with fail
  refine (left_any w3 r [1, 0, 0, 0] 4 hrd3 (by simp) (by simp)).mono ?_
  rintro e w4 ⟨rfl, n4, rfl⟩
  go_wp2_with fail
  have hs3 := hs2.below (only_below hg3 hr (Nat.le_trans hr (Nat.le_of_lt hrd.lt)))
  refine (equal_any (w3.drewN n4) _ _ [1, 0, 0, 0] [1, 0, 0, 0] cq cq w1.heap.size hs3 hs3).mono ?_
  rintro e w5 ⟨rfl, rfl⟩
  go_wp2_with fail
  go_ret
  refine ⟨rfl, below_drewN ?_ _⟩
  have h3 : Below w.heap.size w2 w3 := only_below hg3 (Nat.le_trans hb1.size hr) (Nat.le_trans hb1.size hb2.size)
  exact (hb1.trans (hb2.mono hb1.size)).trans h3
end Go.Proofs.YtpimoipjomikiaaDoor
