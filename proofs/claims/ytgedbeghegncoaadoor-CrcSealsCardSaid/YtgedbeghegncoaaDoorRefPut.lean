/- The contract of redlineref01.Put: the bytes, and a number's bytes behind them, in memory of the call's own. Condition: fewer than 2^46 bytes. -/
import Derived.Test.YtgedbeghegncoaaDoorProg
import Derived.Test.YtgedbeghegncoaaDoorMem
import Derived.Test.YtgedbeghegncoaaDoorJoin
import Derived.Test.YtgedbeghegncoaaDoorRow
import Derived.Test.YtgedbeghegncoaaDoorNums
import Derived.WalkSpells
namespace Go.Proofs.YtgedbeghegncoaaDoor
open Go.RowKit

theorem div_pow (n k : Nat) : n / 256 ^ k / 256 = n / 256 ^ (k + 1) := by rw [Nat.div_div_eq_div_mul, ← Nat.pow_succ]
set_option maxRecDepth 100000 in
set_option maxHeartbeats 1000000 in
theorem refPut_any (w : World) (p : Option Addr) (l : List UInt8) (c n many B : Nat) (hB : B ≤ w.heap.size) (hl : l.length ≤ 70368744177664) (hw : many ≤ 8) (hn : n < 18446744073709551616) (hs : Sl w B p l) :
    Calls Tryd.prog 15 #[.slice p l.length c, .int .u64 (n : Int), .int .i64 (many : Int)] w (Owned w (l ++ le n many)) := by
  obtain ⟨i0, hi, hz0, hz1, hz2⟩ := info_parts infoB
  go_enter Tryd.func15, Tryd.ntmps15
  go_wp2_with (at_builtin; refine wpList_append_sl _ rfl (.tmp 9) (.tmp 10) 22 rfl w.heap.size 5 i0 (.int .u8 0) Tryd.underlying22 hi hz0 hz1 hz2 rfl _ _ _ rfl (World.ownsRow_made w #[] 0 (Nat.le_refl _) (by simp) rfl) B p c l rfl (hs.below ((Below.refl _ _).alloc hB _)) (by omega) (by simp) ?_; intro v2 w2 hown2 hg2)
  have hb2 : Below w.heap.size w w2 := ((Below.refl _ _).alloc (Nat.le_refl _) _).grown hg2 (by simp) (fun g h => Nat.le_of_eq (Option.some.inj h))
  simp only [Nat.zero_add, List.nil_append] at hown2
  clear hg2
  go_loopw [7, 8, 1] (fun v i m wr => ∃ k : Nat, k ≤ many ∧ i = .int .i64 k ∧ m = .int .u64 ((n / 256 ^ k : Nat) : Int) ∧ wr.ownsRow w.heap.size 5 1 v (l ++ le n k).length ((l ++ le n k).map bv) ∧ Below w.heap.size w wr) (fun _ i _ _ => many - (intOf i).toNat)
  case atStart => exact ⟨0, by omega, rfl, by simp, by simpa [le] using hown2, hb2⟩
  case round =>
    obtain ⟨k, hk, rfl, rfl, hownr, hbr⟩ := hrel
    have hle : n / 256 ^ k ≤ n := Nat.div_le_self _ _
    have hll : (l ++ le n k).length ≤ 70368744177672 := by rw [List.length_append, le_length]; omega
    have HD := Lib.hid (div_pow n k)
    have HL := Lib.hid (le_succ n k)
    have hsz := hbr.size
    generalize hm : n / 256 ^ k = m at *
    have HM := Lib.hid hm
    clear hm
    have hm64 : m < 18446744073709551616 := by omega
    clear hn hle
    by_cases hlt : k < many
    · have hone := one_sl wr 5 (UInt8.ofNat (m % 256))
      rw [bv_mod] at hone
      go_wp2_with (at_builtin; go_must (refine wpList_append_sl _ rfl (.tmp 17) (.tmp 21) 22 rfl w.heap.size 5 i0 (.int .u8 0) Tryd.underlying22 hi hz0 hz1 hz2 rfl _ _ _ rfl (hownr.alloc _) (wr.heap.size + 1) (some ⟨wr.heap.size, 0, none⟩) 1 [UInt8.ofNat (m % 256)] rfl hone (by simp only [List.length_singleton]; omega) (by simp; omega) ?_); intro v3 w3 hown3 hg3)
      have hb3 := (hbr.alloc hsz _).grown hg3 (by simp; omega) (fun g h => (hownr.lt g h).1)
      have e1 : (l ++ le n (k + 1)) = (l ++ le n k) ++ [UInt8.ofNat (m % 256)] := by rw [HL.out, List.append_assoc]
      have hown4 : w3.ownsRow w.heap.size 5 1 v3 (l ++ le n (k + 1)).length ((l ++ le n (k + 1)).map bv) := by
        rw [e1, List.length_append, List.map_append]; exact hown3
      clear hown3 hg3 e1
      go_roundw
      case rel => exact ⟨k + 1, by omega, by go_num, by rw [← HD.out]; go_num, hown4, hb3⟩
      case measure => simp [intOf]; omega
    · obtain rfl : k = many := by omega
      go_wp2
      go_ret
      exact ⟨_, rfl, hownr, hbr⟩

theorem refPut8_any (w : World) (p : Option Addr) (l : List UInt8) (c n B : Nat) (hB : B ≤ w.heap.size) (hl : l.length ≤ 70368744177664) (hn : n < 18446744073709551616) (hs : Sl w B p l) :
    Calls Tryd.prog 15 #[.slice p l.length c, .int .u64 (n : Int), .int .i64 8] w (Owned w (l ++ le n 8)) := refPut_any w p l c n 8 B hB hl (by omega) hn hs
theorem refPut4_any (w : World) (p : Option Addr) (l : List UInt8) (c n B : Nat) (hB : B ≤ w.heap.size) (hl : l.length ≤ 70368744177664) (hn : n < 18446744073709551616) (hs : Sl w B p l) :
    Calls Tryd.prog 15 #[.slice p l.length c, .int .u64 (n : Int), .int .i64 4] w (Owned w (l ++ le n 4)) := refPut_any w p l c n 4 B hB hl (by omega) hn hs
end Go.Proofs.YtgedbeghegncoaaDoor
