/- The contracts of varint.Zig, varint.Zag and redlineref02.Zag: zigzagged and back. Condition: the numbers are of their types. -/
import Derived.Test.YtnokjainniihkaaDoorProg
import Derived.Test.YtnokjainniihkaaDoorMem
import Derived.WalkSpells
import Derived.Laws.BitsAllLaws
import Derived.Laws.BitsLemmas
import Derived.Lib.Zigzag
namespace Go.Proofs.YtnokjainniihkaaDoor
open Go.RowKit

def zag (m : Nat) : Int := if m % 2 = 0 then ((m / 2 : Nat) : Int) else -1 - ((m / 2 : Nat) : Int)
def zig (n : Int) : Nat := if n < 0 then (-1 - 2 * n).toNat else (2 * n).toNat
theorem zag_zig (n : Int) : zag (zig n) = n := by
  unfold zig zag
  split <;> split <;> omega
theorem zig_zag (m : Nat) : zig (zag m) = m := by
  unfold zig zag
  split <;> split <;> omega
theorem zag_in (m : Nat) (h : m < 18446744073709551616) : -9223372036854775808 ≤ zag m ∧ zag m < 9223372036854775808 := by
  unfold zag
  split <;> omega
theorem zig_lt (n : Int) (h : -9223372036854775808 ≤ n) (h' : n < 9223372036854775808) : zig n < 18446744073709551616 := by
  unfold zig
  split <;> omega

set_option maxRecDepth 100000 in
theorem zag_any (w : World) (m : Nat) (h : m < 18446744073709551616) :
    Calls Tryd.prog 35 #[.int .u64 (m : Int)] w fun e w' => e = .returned (.int .i64 (zag m)) ∧ w = w' := by
  have hx := Lib.hid (Lib.i64_not (m / 2) (by omega))
  by_cases h0 : m % 2 = 0
  · have e : Hid (zag m = ((m / 2 : Nat) : Int)) := Lib.hid (by unfold zag; rw [if_pos h0])
    go_enter Tryd.func35, Tryd.ntmps35
    go_wp2
    go_ret
    exact ⟨by rw [e.out]; rfl, rfl⟩
  · have e : Hid (zag m = -1 - ((m / 2 : Nat) : Int)) := Lib.hid (by unfold zag; rw [if_neg h0])
    go_enter Tryd.func35, Tryd.ntmps35
    go_wp2
    go_ret
    refine ⟨congrArg Ending.returned (congrArg (Value.int _) ?_), rfl⟩
    rw [e.out]
    have := hx.out
    rw [Int.natCast_ediv] at this
    exact this.trans (by omega)
set_option maxRecDepth 100000 in
theorem refZag_any (w : World) (m : Nat) (h : m < 18446744073709551616) :
    Calls Tryd.prog 26 #[.int .u64 (m : Int)] w fun e w' => e = .returned (.int .i64 (zag m)) ∧ w = w' := by
  by_cases h0 : m % 2 = 0
  · have e : Hid (zag m = ((m / 2 : Nat) : Int)) := Lib.hid (by unfold zag; rw [if_pos h0])
    go_enter Tryd.func26, Tryd.ntmps26
    go_wp2
    go_ret
    exact ⟨by rw [e.out]; rfl, rfl⟩
  · have e : Hid (zag m = -1 - ((m / 2 : Nat) : Int)) := Lib.hid (by unfold zag; rw [if_neg h0])
    go_enter Tryd.func26, Tryd.ntmps26
    go_wp2
    go_ret
    exact ⟨by rw [e.out]; rfl, rfl⟩
set_option maxRecDepth 100000 in
theorem zig_any (w : World) (n : Int) (h : -9223372036854775808 ≤ n) (h' : n < 9223372036854775808) :
    Calls Tryd.prog 34 #[.int .i64 n] w fun e w' => e = .returned (.int .u64 (zig n : Int)) ∧ w = w' := by
  by_cases h0 : n < 0
  · have e : Hid ((zig n : Int) = -1 - 2 * n) := Lib.hid (by unfold zig; rw [if_pos h0]; omega)
    have hz := Lib.zigzag_neg h h0
    have hz' : ((Lib.zigzag n : Nat) : Int) = -1 - 2 * n := by
      unfold Lib.zigzag
      rw [if_neg (by omega)]
      omega
    rw [hz'] at hz
    have HZ := Lib.hid hz
    clear hz hz'
    go_enter Tryd.func34, Tryd.ntmps34
    go_wp2
    go_ret
    refine ⟨congrArg Ending.returned (congrArg (Value.int _) ?_), rfl⟩
    rw [e.out]
    exact HZ.out
  · have e : Hid ((zig n : Int) = 2 * n) := Lib.hid (by unfold zig; rw [if_neg h0]; omega)
    go_enter Tryd.func34, Tryd.ntmps34
    go_wp2
    go_ret
    refine ⟨congrArg Ending.returned (congrArg (Value.int _) ?_), rfl⟩
    rw [e.out]
    show n * 2 = 2 * n
    omega
end Go.Proofs.YtnokjainniihkaaDoor
