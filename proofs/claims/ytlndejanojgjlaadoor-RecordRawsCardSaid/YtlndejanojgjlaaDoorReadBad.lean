/- The contracts of octets.Reader's methods where a number is out of its range, or fewer bytes are left: the error, and the reader stays. Condition: the errors' variables hold what the program's text lays. -/
import Derived.Test.YtlndejanojgjlaaDoorProg
import Derived.Test.YtlndejanojgjlaaDoorMem
import Derived.Test.YtlndejanojgjlaaDoorReader
import Derived.Test.YtlndejanojgjlaaDoorNumber
import Derived.Test.YtlndejanojgjlaaDoorNum
namespace Go.Proofs.YtlndejanojgjlaaDoor
open Go.RowKit

/-- Which error: 0: the number is out of its range; 1: fewer are left. -/
def Bad (l : List UInt8) (k : Nat) (n : Int) (b : Nat) : Prop := b = 0 ∧ n < 0 ∨ b = 1 ∧ 0 ≤ n ∧ (l.length : Int) - (k : Int) < n
theorem neq_err (A : Nat → Addr) (b : Nat) (u : World) : (binOp .neq 31 (errV A b) .nilIface).run Tryd.prog u = .ok (.bool true) u := run_neq_held_nil (P := Tryd.prog) u 31 tE (.pointer (some (A b))) (by kernel_rfl)

set_option maxRecDepth 100000 in
set_option maxHeartbeats 1000000 in
theorem next_bad (w : World) (A : Nat → Addr) (hE : Errs w A) (r : Nat) (l : List UInt8) (k : Nat) (n : Int) (b : Nat) (hr : Rd w r l k) (hl : l.length ≤ 70368744177672) (hk : k ≤ l.length) (hb : Bad l k n b) :
    Calls Tryd.prog 64 #[.pointer (some ⟨r, 0, none⟩), .int .i64 n] w fun e w' => e = .returned (.tuple #[.slice none 0 0, errV A b]) ∧ ∃ m, w' = w.drewN m := by
  have g0 : w.cell? ⟨1, 0, none⟩ = some (errV A 0) := hE.holds 0 _ rfl
  have g1 : w.cell? ⟨3, 0, none⟩ = some (errV A 1) := hE.holds 1 _ rfl
  rcases hb with ⟨rfl, hn⟩ | ⟨rfl, hn0, hn⟩
  · go_enter Tryd.func64, Tryd.ntmps64
    go_wp2_with fail
    go_quiet (fail)
    go_wp2_with fail
    go_ret2
    exact ⟨rfl, _, rfl⟩
  · have hn' : ¬ n < 0 := by omega
    go_enter Tryd.func64, Tryd.ntmps64
    go_wp2_with fail
    refine (left_any w r l k hr hl hk).mono ?_
    rintro e w1 ⟨rfl, n1, rfl⟩
    go_wp2_with fail
    go_quiet (fail)
    go_wp2_with fail
    go_ret2
    exact ⟨rfl, by first | exact ⟨_, rfl⟩ | (simp only [World.drewN_drewN]; exact ⟨_, rfl⟩)⟩

set_option maxRecDepth 100000 in
theorem number_bad (w : World) (A : Nat → Addr) (hE : Errs w A) (r : Nat) (l : List UInt8) (k : Nat) (n : Int) (b : Nat) (hr : Rd w r l k) (hl : l.length ≤ 70368744177672) (hk : k ≤ l.length) (hb : Bad l k n b) :
    Calls Tryd.prog 57 #[.pointer (some ⟨r, 0, none⟩), .int .i64 n] w fun e w' => e = .returned (.tuple #[.int .u64 0, errV A b]) ∧ ∃ m, w' = w.drewN m := by
  have hne := neq_err A b
  go_enter Tryd.func57, Tryd.ntmps57
  go_wp2_with fail
  refine (next_bad w A hE r l k n b hr hl hk hb).mono ?_
  rintro e w1 ⟨rfl, n1, rfl⟩
  go_wp2_with fail
  go_ret2
  exact ⟨rfl, _, rfl⟩
set_option maxRecDepth 100000 in
theorem fixed32_bad (w : World) (A : Nat → Addr) (hE : Errs w A) (r : Nat) (l : List UInt8) (k : Nat) (b : Nat) (hr : Rd w r l k) (hl : l.length ≤ 70368744177672) (hk : k ≤ l.length) (hb : Bad l k 4 b) :
    Calls Tryd.prog 44 #[.pointer (some ⟨r, 0, none⟩)] w fun e w' => e = .returned (.tuple #[.int .u32 0, errV A b]) ∧ ∃ m, w' = w.drewN m := by
  go_enter Tryd.func44, Tryd.ntmps44
  go_wp2_with fail
  refine (number_bad w A hE r l k 4 b hr hl hk hb).mono ?_
  rintro e w1 ⟨rfl, n1, rfl⟩
  go_wp2_with fail
  go_ret2
  exact ⟨rfl, _, rfl⟩
set_option maxRecDepth 100000 in
theorem fixed64_bad (w : World) (A : Nat → Addr) (hE : Errs w A) (r : Nat) (l : List UInt8) (k : Nat) (b : Nat) (hr : Rd w r l k) (hl : l.length ≤ 70368744177672) (hk : k ≤ l.length) (hb : Bad l k 8 b) :
    Calls Tryd.prog 41 #[.pointer (some ⟨r, 0, none⟩)] w fun e w' => e = .returned (.tuple #[.int .u64 0, errV A b]) ∧ ∃ m, w' = w.drewN m := by
  go_enter Tryd.func41, Tryd.ntmps41
  go_wp2_with fail
  refine (number_bad w A hE r l k 8 b hr hl hk hb).mono ?_
  rintro e w1 ⟨rfl, n1, rfl⟩
  go_wp2_with fail
  go_ret2
  exact ⟨rfl, _, rfl⟩

end Go.Proofs.YtlndejanojgjlaaDoor
