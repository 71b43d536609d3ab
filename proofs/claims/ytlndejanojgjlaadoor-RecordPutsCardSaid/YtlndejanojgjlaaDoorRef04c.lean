/- The contracts of redlineref04.Check and Put. Condition: texts of fewer than 2^46 bytes. -/
import Derived.Test.YtlndejanojgjlaaDoorProg
import Derived.Test.YtlndejanojgjlaaDoorMem
import Derived.Test.YtlndejanojgjlaaDoorRet
import Derived.Test.YtlndejanojgjlaaDoorTag
import Derived.Test.YtlndejanojgjlaaDoorRefPut
import Derived.Test.YtlndejanojgjlaaDoorRcheck
import Derived.Test.YtlndejanojgjlaaDoorRput
import Derived.Lib.AppendStr
namespace Go.Proofs.YtlndejanojgjlaaDoor
open Go.RowKit

set_option maxRecDepth 100000 in
set_option maxHeartbeats 2000000 in
theorem refCheck04_any (w : World) (n k : Int) (bits : Nat) (text raw : List UInt8) (ht : text.length ≤ 70368744177664) :
    Calls Tryd.prog 15 #[recV n k bits text raw] w fun e w' => e = .returned (.int .i64 (rcheck n k bits text : Int)) ∧ Below w.heap.size w w' := by
  have HC := fun ws => refCheck_any ws n k
  unfold recV
  by_cases h : tcheck n k = 0
  · have HW := rcheck_way bits text h
    generalize rcheck n k bits text = R at *
    rw [h] at HC
    clear h
    have hst := strSize text
    cases HW
    all_goals
      subst k
      first | subst bits | subst text | skip
      try (generalize ((bits : Nat) : Int) = z at *)
      go_enter Tryd.func15, Tryd.ntmps15
      go_wp2_with fail
      refine (HC _).mono ?_
      rintro e w2 ⟨rfl, rfl⟩
      clear HC
      try simp only [List.length_nil, List.length_cons] at hst ht
      go_wp2_with fail
      go_ret
      exact ⟨rfl, (Below.refl _ _).alloc (Nat.le_refl _) _⟩
  · have he : rcheck n k bits text = tcheck n k := by unfold rcheck; rw [if_pos h]
    rw [he]
    have h1 : (tcheck n k : Int) ≠ 0 := by omega
    generalize tcheck n k = T at *
    clear h he
    go_enter Tryd.func15, Tryd.ntmps15
    go_wp2_with fail
    refine (HC _).mono ?_
    rintro e w2 ⟨rfl, rfl⟩
    clear HC
    go_wp2_with fail
    go_ret
    exact ⟨rfl, (Below.refl _ _).alloc (Nat.le_refl _) _⟩
end Go.Proofs.YtlndejanojgjlaaDoor
