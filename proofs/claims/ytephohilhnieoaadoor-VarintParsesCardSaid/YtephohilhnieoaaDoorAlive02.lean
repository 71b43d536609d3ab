/- The contract of redlinelaw02's example: it answers true, and nothing that was there turns. No condition. -/
import Derived.Test.YtephohilhnieoaaDoorProg
import Derived.Test.YtephohilhnieoaaDoorMem
import Derived.Test.YtephohilhnieoaaDoorVput
import Derived.Test.YtephohilhnieoaaDoorVscan
import Derived.Test.YtephohilhnieoaaDoorVparse
import Derived.Test.YtephohilhnieoaaDoorZig
namespace Go.Proofs.YtephohilhnieoaaDoor
open Go.RowKit

theorem vput300 : vput 300 = [172, 2] := by
  rw [vput_big (by decide), vput_small (by decide)]
  decide

set_option maxRecDepth 100000 in
set_option maxHeartbeats 1000000 in
theorem alive02_any (w : World) : Calls Tryd.prog 7 #[] w fun e w' => e = .returned (.bool true) ∧ Below w.heap.size w w' := by
  go_enter Tryd.func7, Tryd.ntmps7
  go_wp2_with fail
  refine (vPut_any w none [] 0 300 0 (Nat.zero_le _) (by simp) (by omega) (Sl.nil _ _ _)).mono ?_
  rintro e w1 ⟨v, rfl, hown, hb1⟩
  have hle : [] ++ vput 300 = [172, 2] := by rw [List.nil_append, vput300]
  rw [hle] at hown
  obtain ⟨q, cq, rfl, hsl, hc, _⟩ := own_sl hown
  clear hown hle
  have hp : vparse [172, 2] = (300, 2, 0) := by
    have := vparse_vput 300 [] (by omega)
    rwa [List.append_nil, vput300] at this
  have HP := vParse_any w1 (fun _ => ⟨0, 0, none⟩) q [172, 2] cq w1.heap.size (by simp) hc hsl (fun h => by rw [hp] at h; exact absurd rfl h)
  rw [hp, show errOf (fun _ => ⟨0, 0, none⟩) ((300, 2, 0) : Nat × Nat × Nat).2.2 = Value.nilIface from rfl] at HP
  go_wp2_with fail
  refine HP.mono ?_
  rintro e w2 ⟨rfl, n2, rfl⟩
  obtain ⟨b, o, rfl, hbb, hc0⟩ := hsl.at_ (i := 0) (by simp)
  obtain ⟨b', o', hbo, _, hc1⟩ := hsl.at_ (i := 1) (by simp)
  injection hbo with hbo
  injection hbo with hbo1 hbo2
  subst hbo1 hbo2
  simp only [List.length_cons, List.length_nil, Nat.zero_add, Nat.reduceAdd, List.getElem_cons_zero, List.getElem_cons_succ, Nat.add_zero] at hc0 hc1 hc
  have hd0 : (w1.drewN n2).cell? ⟨b, o, none⟩ = _ := hc0
  have hd1 : (w1.drewN n2).cell? ⟨b, o + 1, none⟩ = _ := hc1
  go_wp2_with fail
  refine (zag_any _ 3 (by omega)).mono ?_
  rintro e w5 ⟨rfl, rfl⟩
  have hz : zag 3 = -2 := by decide
  rw [hz]
  go_wp2_with fail
  go_ret
  exact ⟨rfl, below_drewN hb1 _⟩
end Go.Proofs.YtephohilhnieoaaDoor
