/- The contract of redlinelaw05's example: it answers true, and nothing that was there turns. No condition. -/
import Derived.Test.YtgedbeghegncoaaDoorProg
import Derived.Test.YtgedbeghegncoaaDoorMem
import Derived.Test.YtgedbeghegncoaaDoorCrcMath
import Derived.Test.YtgedbeghegncoaaDoorCrc
import Derived.Test.YtgedbeghegncoaaDoorSeal
import Derived.Lib.SlBytesConst
namespace Go.Proofs.YtgedbeghegncoaaDoor
open Go.RowKit

/-- Sum of one row, the part's block told apart. -/
theorem sum_at (w : World) (g : Nat) (p : Option Addr) (l : List UInt8) (c B : Nat) (t : TypeId) (hg : w.heap.size = g) (hB : B ≤ w.heap.size) (hl : l.length ≤ 140737488351232) (hs : Sl w B p l) (n : Nat) (hn : crcSum l = n) :
    Calls Tryd.prog 16 #[.slice (some ⟨g, 0, none⟩) 1 1] (w.alloc (.cells #[.slice p l.length c] t)) fun e w' => e = .returned (.int .u32 (n : Int)) ∧ Below w.heap.size w w' := by
  subst hg hn
  exact sum_one w p l c B t hB hl hs
theorem crc_digits : crcSum [49, 50, 51, 52, 53, 54, 55, 56, 57] = 3421780262 := by decide +kernel

theorem sl_const (w : World) (t : TypeId) (l : List UInt8) (fr : Nat × Nat) : Sl (w.alloc (.cells (l.map bv).toArray t fr)) (w.heap.size + 1) (some ⟨w.heap.size, 0, none⟩) l := fun _ =>
  ⟨w.heap.size, 0, rfl, by omega, fun i x hx => by
    rw [Nat.zero_add, cell_of_row _ _ i _ t fr (heap_alloc_new w _)]
    rw [List.getElem?_toArray, List.getElem?_map, hx]
    rfl⟩

set_option maxRecDepth 100000 in
set_option maxHeartbeats 1000000 in
theorem alive05_any (w : World) : Calls Tryd.prog 6 #[] w fun e w' => e = .returned (.bool true) ∧ Below w.heap.size w w' := by
  have kc := fun (u : World) (C : Array Value) (n c : Nat) => Lib.run_convert_bytes_const (P := Tryd.prog) u 22 5 C n c Tryd.underlying22 Tryd.underlying5
  obtain ⟨w1, hw1⟩ : ∃ w1, w1 = w.alloc (.cells #[.int .u8 49, .int .u8 50, .int .u8 51, .int .u8 52, .int .u8 53, .int .u8 54, .int .u8 55, .int .u8 56, .int .u8 57] 5 (9, 10)) := ⟨_, rfl⟩
  have hs1 : Sl w1 (w.heap.size + 1) (some ⟨w.heap.size, 0, none⟩) [49, 50, 51, 52, 53, 54, 55, 56, 57] := by rw [hw1]; exact sl_const w 5 [49, 50, 51, 52, 53, 54, 55, 56, 57] (9, 10)
  have hz1 : w1.heap.size = w.heap.size + 1 := by rw [hw1]; simp
  have hb1 : Below w.heap.size w w1 := by rw [hw1]; exact (Below.refl _ _).alloc (Nat.le_refl _) _
  go_enter Tryd.func6, Tryd.ntmps6
  go_wp2_with fail
  rw [← hw1]
  clear hw1
  refine (sum_at w1 (w.heap.size + 1) (some ⟨w.heap.size, 0, none⟩) [49, 50, 51, 52, 53, 54, 55, 56, 57] 9 (w.heap.size + 1) _ hz1 (by omega) (by simp) hs1 3421780262 crc_digits).mono ?_
  rintro e w2 ⟨rfl, hb2⟩
  obtain ⟨w3, hw3⟩ : ∃ w3, w3 = w2.alloc (.cells #[.int .u8 97] 5 (1, 2)) := ⟨_, rfl⟩
  have hs3 : Sl w3 (w2.heap.size + 1) (some ⟨w2.heap.size, 0, none⟩) [97] := by rw [hw3]; exact sl_const w2 5 [97] (1, 2)
  have hz3 : w3.heap.size = w2.heap.size + 1 := by rw [hw3]; simp
  have hb3 : Below w2.heap.size w2 w3 := by rw [hw3]; exact (Below.refl _ _).alloc (Nat.le_refl _) _
  go_wp2_with fail
  rw [← hw3]
  clear hw3 kc
  refine (seal_any w3 _ [97] 1 (w2.heap.size + 1) (by omega) (by simp) hs3).mono ?_
  rintro e w4 ⟨v4, rfl, hown4, hb4⟩
  obtain ⟨q4, c4, rfl, hsl4, hc4, hm4⟩ := own_sl hown4
  have hle : (sealed [97]).length = 5 := by simp [sealed, le_length]
  go_wp2_with fail
  refine (right_any w4 q4 (sealed [97]) c4 w4.heap.size true (Nat.le_refl _) (by omega) hc4 hm4 (by omega) hsl4 ⟨fun _ => crcOk_sealed _, fun _ => rfl⟩).mono ?_
  rintro e w5 ⟨rfl, hb5⟩
  go_wp2_with fail
  refine (right_short w5 none [] 0 (by simp)).mono ?_
  rintro e w6 ⟨rfl, rfl⟩
  go_wp2_with fail
  go_ret
  have b2 := hb1.trans (hb2.mono hb1.size)
  have b3 := b2.trans (hb3.mono b2.size)
  have b4 := b3.trans (hb4.mono b3.size)
  exact ⟨rfl, b4.trans (hb5.mono b4.size)⟩
end Go.Proofs.YtgedbeghegncoaaDoor
