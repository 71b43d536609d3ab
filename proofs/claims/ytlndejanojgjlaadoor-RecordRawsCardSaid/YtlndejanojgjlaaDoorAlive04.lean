/- The contract of redlinelaw04's example: it answers true, and nothing that was there turns. Condition: the errors' variables hold what the program's text lays. -/
import Derived.Test.YtlndejanojgjlaaDoorProg
import Derived.Test.YtlndejanojgjlaaDoorMem
import Derived.Test.YtlndejanojgjlaaDoorRparse2
import Derived.Laws.StructEq
namespace Go.Proofs.YtlndejanojgjlaaDoor
open Go.RowKit

theorem rparse_81 : rparse [8, 1] = (⟨1, 0, 1, [], [8, 1]⟩, 2, 0) := by
  have h8 : vparse [8, 1] = (8, 1, 0) := by
    have := vparse_vput 8 [1] (by omega)
    rw [vput_small (by decide)] at this
    exact this
  have h1 : vparse [1] = (1, 1, 0) := by
    have := vparse_vput 1 [] (by omega)
    rw [vput_small (by decide)] at this
    exact this
  have ht : tparse [8, 1] = (1, 0, 1, 0) := by unfold tparse; rw [h8]; decide
  unfold rparse
  rw [ht]
  simp only [List.drop_succ_cons, List.drop_zero]
  rw [rbody0, h1]
  rfl

set_option maxRecDepth 100000 in
set_option maxHeartbeats 1000000 in
theorem alive04_any (w : World) (A : Nat → Addr) (hE : Errs w A) : Calls Tryd.prog 6 #[] w fun e w' => e = .returned (.bool true) ∧ Below w.heap.size w w' := by
  obtain ⟨w1, hw1⟩ : ∃ w1, w1 = w.alloc (.cells #[.int .u8 8, .int .u8 1] 5) := ⟨_, rfl⟩
  have hb1 : Below w.heap.size w w1 := hw1 ▸ (Below.refl _ _).alloc (Nat.le_refl _) _
  have hk1 : Blk w1 w.heap.size 5 [.int .u8 8, .int .u8 1] := hw1 ▸ Blk.new w _ _
  have hs1 : Sl w1 (w.heap.size + 1) (some ⟨w.heap.size, 0, none⟩) [8, 1] := Sl.of_blk hk1 (by omega) fun i x hx => by
    match i, hx with
    | 0, hx => simp at hx; subst hx; rfl
    | 1, hx => simp at hx; subst hx; rfl
  have HP : Calls Tryd.prog 8 #[.slice (some ⟨w.heap.size, 0, none⟩) 2 2] w1 (Recs w1 (recV 1 0 1 [] [8, 1]) 2 .nilIface) := by
    have := recParse_any w1 A (hE.below hb1) (some ⟨w.heap.size, 0, none⟩) [8, 1] 2 (w.heap.size + 1) (by simp) (by simp) hk1.lt hs1
    rw [rparse_81] at this
    exact this
  have hst : (str [8, 1]).toList = [8, 1] := str_toList _
  rw [hw1] at HP
  unfold recV Recs at HP
  go_enter Tryd.func6, Tryd.ntmps6
  go_wp2_with fail
  refine HP.mono ?_
  rintro e w2 ⟨rfl, hb2⟩
  rw [← hw1] at hb2
  clear HP hw1
  go_wp2_with fail
  go_ret
  exact ⟨rfl, (hb1.trans (hb2.mono hb1.size)).alloc (Nat.le_trans hb1.size hb2.size) _⟩
end Go.Proofs.YtlndejanojgjlaaDoor
