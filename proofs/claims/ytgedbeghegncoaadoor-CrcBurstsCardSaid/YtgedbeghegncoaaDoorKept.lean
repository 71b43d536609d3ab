/- The contract of redlinenum.Kept: of a copy that is as redlinenum.Bytes made it, and of the bytes that it is a copy of, the answer is true and nothing turns. Condition: fewer than 2^47 bytes. -/
import Derived.Test.YtgedbeghegncoaaDoorProg
import Derived.Test.YtgedbeghegncoaaDoorMem
import Derived.BigGuardPart
namespace Go.Proofs.YtgedbeghegncoaaDoor
open Go.RowKit

set_option maxRecDepth 100000 in
set_option maxHeartbeats 400000 in
theorem kept_any (w : World) (g : Nat) (p : Option Addr) (l : List UInt8) (c B : Nat) (hl : l.length ≤ 140737488351232) (hs : Sl w B p l)
    (hg : Blk w g 5 (l.map bv ++ List.replicate 6 (.int .u8 165))) :
    Calls Tryd.prog 10 #[.slice (some ⟨g, 0, none⟩) l.length (l.length + 6), .slice p l.length c] w fun e w' => e = .returned (.bool true) ∧ w = w' := by
  go_enter Tryd.func10, Tryd.ntmps10
  go_wp2_with fail
  go_loop [15] (fun i => ∃ k : Nat, k ≤ l.length + 6 ∧ i = .int .i64 k) (fun i => l.length + 6 - (intOf i).toNat)
  case atStart => exact ⟨0, by omega, rfl⟩
  case round =>
    obtain ⟨k, hk, rfl⟩ := hrel
    by_cases hlt : k < l.length
    · have hc : w.cell? ⟨g, k, none⟩ = some (.int .u8 (l[k].toNat : Int)) := by
        rw [hg.cell, List.getElem?_append_left (by simpa using hlt)]
        simp [hlt, bv]
      obtain ⟨b, o, rfl, _, hb⟩ := hs.at_ hlt
      go_wp2
      go_round
      case rel => exact ⟨k + 1, by omega, by go_num⟩
      case measure => simp [intOf]; omega
    · have hge : l.length ≤ k := by omega
      by_cases h6 : k < l.length + 6
      · have hc : w.cell? ⟨g, k, none⟩ = some (.int .u8 165) := by
          rw [hg.cell, List.getElem?_append_right (by simp; omega)]
          rw [List.getElem?_replicate, if_pos (by simp; omega)]
        go_wp2
        all_goals
          go_round
          case rel => exact ⟨k + 1, by omega, by go_num⟩
          case measure => simp [intOf]; omega
      · go_wp2
        go_ret
        exact ⟨rfl, rfl⟩
end Go.Proofs.YtgedbeghegncoaaDoor
