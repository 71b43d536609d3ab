/- b[:k] and b[k:], k a letter, in every world. No condition but the bounds. -/
import Derived.Test.YtgedbeghegncoaaDoorProg
import Derived.Test.YtgedbeghegncoaaDoorMem
import Derived.WalkSpells
namespace Go.Proofs.YtgedbeghegncoaaDoor
open Go.RowKit

theorem cut_head (p : Option Addr) (n c k : Nat) (h : k ≤ c) (u : World) : (Instr.slice 22 (.slice p n c) none (some (.int .i64 (k : Int))) none).run Tryd.prog u = .ok (.slice p k c) u := by
  have h1 : (0 : Int) ≤ (k : Int) := by omega
  have h2 : (k : Int) ≤ (c : Int) := by omega
  go_simp
theorem cut_tail (p : Option Addr) (n c k : Nat) (h : k ≤ n) (u : World) : (Instr.slice 22 (.slice p n c) (some (.int .i64 (k : Int))) none none).run Tryd.prog u = .ok (.slice (if c = k then p else Option.map (fun x => x.add k) p) (n - k) (c - k)) u := by
  have h1 : (0 : Int) ≤ (k : Int) := by omega
  have h2 : (k : Int) ≤ (n : Int) := by omega
  go_simp <;> rfl
end Go.Proofs.YtgedbeghegncoaaDoor
