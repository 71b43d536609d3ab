/- The contract of crc.More. Condition: fewer than 2^47 bytes. -/
import Derived.Test.YtgedbeghegncoaaProg
import Derived.Test.YtgedbeghegncoaaMem
import Derived.Test.YtgedbeghegncoaaCrc
namespace Go.Proofs.Ytgedbeghegncoaa
open Go.RowKit

set_option maxRecDepth 100000 in
set_option maxHeartbeats 1000000 in
theorem more_any (w : World) (n : Nat) (p : Option Addr) (l : List UInt8) (c B : Nat) (hB : B ≤ w.heap.size) (hn : n < 4294967296) (hl : l.length ≤ 140737488351232) (hs : Sl w B p l) :
    Calls Try.prog 9 #[.int .u32 (n : Int), .slice p l.length c] w fun e w' => e = .returned (.int .u32 ((crcF (n ^^^ 4294967295) l ^^^ 4294967295 : Nat) : Int)) ∧ Below w.heap.size w w' := by
  have hN : n ^^^ 4294967295 < 4294967296 := xor_lt 32 hn (by decide)
  have hF : crcF (n ^^^ 4294967295) l < 4294967296 := by simpa using crcF_lt (x := n ^^^ 4294967295) l (by simpa using hN)
  have hxo := u32_not n hn
  have hxo2 := u32_not _ hF
  go_enter Try.func9, Try.ntmps9
  go_wp2_with fail
  refine (newTable_any w).mono ?_
  rintro e w1 ⟨rfl, hb1⟩
  have HQ := Lib.hid (heap_alloc_last w1 (.cells #[Value.int .u32 0, Value.int .u32 0, Value.int .u32 0, Value.int .u32 0, Value.int .u32 0, Value.int .u32 0, Value.int .u32 0, Value.int .u32 0, Value.int .u32 0, Value.int .u32 0, Value.int .u32 0, Value.int .u32 0, Value.int .u32 0, Value.int .u32 0, Value.int .u32 0, Value.int .u32 0] 36))
  go_wp2_with ((with_reducible refine wpList_store_row rfl 36 (.tmp 5) (.tmp 6) rfl w1.heap.size tbl.toArray rfl rfl 36 #[Value.int .u32 0, Value.int .u32 0, Value.int .u32 0, Value.int .u32 0, Value.int .u32 0, Value.int .u32 0, Value.int .u32 0, Value.int .u32 0, Value.int .u32 0, Value.int .u32 0, Value.int .u32 0, Value.int .u32 0, Value.int .u32 0, Value.int .u32 0, Value.int .u32 0, Value.int .u32 0] HQ.out infoTable sizeTable oneTable ?_); rw [World.setRow_alloc_new])
  have hT := Blk.new w1 36 tbl
  have hb2 : Below w.heap.size w (w1.alloc (.cells tbl.toArray 36)) := hb1.alloc hb1.size _
  have hs2 := hs.below (hb2.mono hB)
  refine (add_any _ w1.heap.size _ p l c B hT hN hl hs2).mono ?_
  rintro e w3 ⟨rfl, rfl⟩
  go_wp2_with fail
  go_ret
  exact ⟨rfl, hb2⟩
end Go.Proofs.Ytgedbeghegncoaa
