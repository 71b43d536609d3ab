/- An error by its number, and the number of an error. Condition: the errors' variables hold what the program's text lays. -/
import Derived.Test.YtgpihhigajmldaaDoorProg
import Derived.Test.YtgpihhigajmldaaDoorNum
namespace Go.Proofs.YtgpihhigajmldaaDoor
open Go.RowKit

/-- An error by its number. -/
def errOf (A : Nat → Addr) : Nat → Value
  | 0 => .nilIface
  | b + 1 => errV A b
/-- No error is nil. -/
theorem neq_errV (A : Nat → Addr) (b : Nat) (u : World) : (binOp .neq 25 (errV A b) .nilIface).run Tryd.prog u = .ok (.bool true) u := run_neq_held_nil (P := Tryd.prog) u 25 tE (.pointer (some (A b))) (by kernel_rfl)
/-- The number of an error by its number. -/
theorem num_of (w : World) (A : Nat → Addr) (h : Errs w A) (b : Nat) (hb : b ≤ 19) :
    Calls Tryd.prog 16 #[errOf A b] w fun e w' => e = .returned (.int .i64 (b : Int)) ∧ Below w.heap.size w w' := by
  cases b with
  | zero => exact (num_nil w).mono fun e w' ⟨he, hw⟩ => ⟨he, hw ▸ Below.refl _ _⟩
  | succ b => exact (num_err w A h b (by omega)).mono fun e w' ⟨he, hw⟩ => ⟨by rw [he]; rfl, hw⟩
end Go.Proofs.YtgpihhigajmldaaDoor
