/- The walk of VarintZigs: for every two numbers the answer is true, and nothing that was there turns. No condition. -/
import Derived.Test.YtephohilhnieoaaDoorProg
import Derived.Test.YtephohilhnieoaaDoorMem
import Derived.Test.YtephohilhnieoaaDoorZig
import Derived.Test.YtephohilhnieoaaDoorAlive02
namespace Go.Proofs.YtephohilhnieoaaDoor
open Go.RowKit

set_option maxRecDepth 100000 in
set_option maxHeartbeats 1000000 in
theorem zigs_any (w : World) (n : Int) (m : Nat) (h : -9223372036854775808 ≤ n) (h' : n < 9223372036854775808) (hm : m < 18446744073709551616) :
    Calls Tryd.prog 6 #[.int .i64 n, .int .u64 (m : Int)] w fun e w' => e = .returned (.bool true) ∧ Below w.heap.size w w' := by
  have hz := zig_lt n h h'
  have HZ := Lib.hid (zag_zig n)
  have HG := Lib.hid (zig_zag m)
  obtain ⟨hz1, hz2⟩ := zag_in m hm
  go_enter Tryd.func6, Tryd.ntmps6
  go_wp2_with fail
  refine (alive02_any w).mono ?_
  rintro e w1 ⟨rfl, hb1⟩
  go_wp2_with fail
  refine (zag_any w1 m hm).mono ?_
  rintro e w2 ⟨rfl, rfl⟩
  go_wp2_with fail
  refine (refZag_any w1 m hm).mono ?_
  rintro e w2 ⟨rfl, rfl⟩
  go_wp2_with fail
  refine (zig_any w1 n h h').mono ?_
  rintro e w2 ⟨rfl, rfl⟩
  go_wp2_with fail
  refine (refZag_any w1 (zig n) hz).mono ?_
  rintro e w2 ⟨rfl, rfl⟩
  rw [HZ.out]
  go_wp2_with fail
  refine (zig_any w1 n h h').mono ?_
  rintro e w2 ⟨rfl, rfl⟩
  go_wp2_with fail
  refine (zag_any w1 (zig n) hz).mono ?_
  rintro e w2 ⟨rfl, rfl⟩
  rw [HZ.out]
  go_wp2_with fail
  refine (zag_any w1 m hm).mono ?_
  rintro e w2 ⟨rfl, rfl⟩
  go_wp2_with fail
  refine (zig_any w1 (zag m) hz1 hz2).mono ?_
  rintro e w2 ⟨rfl, rfl⟩
  rw [HG.out]
  go_wp2_with fail
  go_ret
  exact ⟨rfl, hb1⟩
end Go.Proofs.YtephohilhnieoaaDoor
