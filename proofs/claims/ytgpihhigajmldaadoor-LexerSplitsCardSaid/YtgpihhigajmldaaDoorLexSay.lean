/- The contracts of redlinenum.Err and Figures, of a kind's word, and of redlinelaw07.Fault. Conditions: the errors' variables hold what the program's text lays; the library's variable errors.errorType what it lays. -/
import Derived.Test.YtgpihhigajmldaaDoorProg
import Derived.Test.YtgpihhigajmldaaDoorLexIs
import Derived.Test.YtgpihhigajmldaaDoorStrs
import Derived.Test.YtgpihhigajmldaaDoorText
import Derived.Lib.ItoaNum
import Derived.Deep.LoopGhost
namespace Go.Proofs.YtgpihhigajmldaaDoor
open Go.RowKit

set_option maxRecDepth 100000 in
theorem err_any (w : World) (A : Nat → Addr) (h : Errs w A) (k : Nat) (hk : k < 20) : Calls Tryd.prog 12 #[.int .i64 (k : Int)] w fun e w' => e = .returned (errOf A k) ∧ Below w.heap.size w w' := by
  cases k with
  | zero =>
    go_enter Tryd.func12, Tryd.ntmps12
    go_wp2_with fail
    go_ret
    exact ⟨rfl, Below.refl _ _⟩
  | succ b =>
    obtain ⟨z, hz⟩ : ∃ z : Int, z = ((b + 1 : Nat) : Int) := ⟨_, rfl⟩
    rw [← hz]
    have h1 : ¬ z < 1 := by omega
    have h2 : ¬ 19 < z := by omega
    have hb19 : b < 19 := by omega
    have hwr : IntKind.i64.wrap (z - 1) = (b : Int) := by
      have e : z - 1 = (b : Int) := by omega
      rw [e]
      exact IntWalk.i64_in (b : Int) (by omega)
    clear hz
    go_enter Tryd.func12, Tryd.ntmps12
    go_wp2_with fail
    refine (all_any w A h).mono ?_
    rintro e w1 ⟨rfl, hb, hbl⟩
    have hcell : w1.cell? ⟨w.heap.size, b, none⟩ = some (.iface tE (.pointer (some (A b)))) := by
      rw [hb.cell]
      simp [hb19, errV]
    go_wp2_with fail
    go_ret
    exact ⟨rfl, hbl⟩

def kindWord (n : Int) : List UInt8 := if n = 1 then [119, 111, 114, 100] else if n = 2 then [105, 110, 116] else if n = 3 then [116, 101, 120, 116] else if n = 4 then [115, 105, 103, 110] else []
set_option maxRecDepth 100000 in
theorem name_any (w : World) (n : Int) : Calls Tryd.prog 18 #[.int .i64 n] w fun e w' => e = .returned (.string (str (kindWord n))) ∧ w' = w := by
  unfold kindWord
  by_cases h1 : n = 1
  · subst h1
    go_enter Tryd.func18, Tryd.ntmps18
    go_wp2_with fail
    go_ret
    exact ⟨rfl, rfl⟩
  by_cases h2 : n = 2
  · subst h2
    go_enter Tryd.func18, Tryd.ntmps18
    go_wp2_with fail
    go_ret
    exact ⟨rfl, rfl⟩
  by_cases h3 : n = 3
  · subst h3
    go_enter Tryd.func18, Tryd.ntmps18
    go_wp2_with fail
    go_ret
    exact ⟨rfl, rfl⟩
  by_cases h4 : n = 4
  · subst h4
    go_enter Tryd.func18, Tryd.ntmps18
    go_wp2_with fail
    go_ret
    exact ⟨rfl, rfl⟩
  rw [if_neg h1, if_neg h2, if_neg h3, if_neg h4]
  have b1 : (n == 1) = false := by simp [h1]
  have b2 : (n == 2) = false := by simp [h2]
  have b3 : (n == 3) = false := by simp [h3]
  have b4 : (n == 4) = false := by simp [h4]
  go_enter Tryd.func18, Tryd.ntmps18
  go_wp2_with fail
  go_ret
  exact ⟨rfl, rfl⟩

set_option maxRecDepth 100000 in
theorem fault_nil (w : World) : Calls Tryd.prog 9 #[.nilIface, .int .i64 0, .int .i64 0, .int .i64 0] w fun e w' => e = .returned (.bool true) ∧ Below w.heap.size w w' := by
  go_enter Tryd.func9, Tryd.ntmps9
  go_wp2_with fail
  refine (where_nil _).mono ?_
  rintro e w1 ⟨rfl, hb1⟩
  go_wp2_with fail
  refine (num_nil _).mono ?_
  rintro e w2 ⟨rfl, rfl⟩
  go_wp2_with fail
  go_ret
  exact ⟨rfl, hb1⟩
set_option maxRecDepth 100000 in
theorem fault_hit (w : World) (A : Nat → Addr) (h : Errs w A) (hT : ErrT w) (g k : Nat) (hk : k < 19) (li co : Int) (hg : Blk w g 40 [.int .i64 li, .int .i64 co, errV A k]) :
    Calls Tryd.prog 9 #[.iface tFlt (.pointer (some ⟨g, 0, none⟩)), .int .i64 ((k : Int) + 1), .int .i64 li, .int .i64 co] w fun e w' => e = .returned (.bool true) ∧ Below w.heap.size w w' := by
  obtain ⟨z, hz⟩ : ∃ z : Int, z = (k : Int) + 1 := ⟨_, rfl⟩
  rw [← hz]
  have z0 : (z == 0) = false := by simp; omega
  have z1 : (z != 0) = true := by simp; omega
  have z2 : ¬ z = 0 := by omega
  go_enter Tryd.func9, Tryd.ntmps9
  go_wp2_with fail
  refine (where_hit w hT g li co _ hg).mono ?_
  rintro e w1 ⟨rfl, hb1⟩
  have HN := num_chain w1 A (h.below hb1) k hk 1 (.iface tFlt (.pointer (some ⟨g, 0, none⟩))) ⟨g, li, co, errV A k, rfl, hg.kept hb1, rfl⟩
  rw [← hz] at HN
  clear hz
  go_wp2_with fail
  refine HN.mono ?_
  rintro e w2 ⟨rfl, hb2⟩
  go_wp2_with fail
  go_ret
  exact ⟨rfl, hb1.trans (hb2.mono hb1.size)⟩
end Go.Proofs.YtgpihhigajmldaaDoor
