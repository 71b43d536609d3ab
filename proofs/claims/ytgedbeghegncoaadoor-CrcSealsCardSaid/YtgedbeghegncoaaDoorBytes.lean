/- The contract of redlinenum.Bytes: of all bytes that lie in memory a copy in a new block, with six marked cells behind it. Condition: fewer than 2^47 of them. -/
import Derived.Test.YtgedbeghegncoaaDoorProg
import Derived.Test.YtgedbeghegncoaaDoorMem
namespace Go.Proofs.YtgedbeghegncoaaDoor
open Go.RowKit

theorem infoU8 : (Tryd.prog.info? 5).map (fun i => (i.zero, i.size, i.bytes)) = some (some (.int .u8 0), 1, 1) := by kernel_rfl
theorem sizeU8 : (Tryd.prog.info? 5).map (·.size) = some 1 := by kernel_rfl

def marks (k : Nat) : List Value := List.replicate k (.int .u8 165) ++ List.replicate (6 - k) (.int .u8 0)

theorem marks_get (l : List UInt8) (k : Nat) (hk : k < 6) : (l.map bv ++ marks k)[l.length + k]? = some (.int .u8 0) := by
  rw [List.getElem?_append_right (by simp)]
  simp only [List.length_map, Nat.add_sub_cancel_left]
  match k, hk with
  | 0, _ => rfl
  | 1, _ => rfl
  | 2, _ => rfl
  | 3, _ => rfl
  | 4, _ => rfl
  | 5, _ => rfl
theorem marks_set (l : List UInt8) (k : Nat) (hk : k < 6) : (l.map bv ++ marks k).set (l.length + k) (.int .u8 165) = l.map bv ++ marks (k + 1) := by
  rw [List.set_append_right _ _ (by simp)]
  simp only [List.length_map, Nat.add_sub_cancel_left]
  congr 1
  match k, hk with
  | 0, _ => rfl
  | 1, _ => rfl
  | 2, _ => rfl
  | 3, _ => rfl
  | 4, _ => rfl
  | 5, _ => rfl

set_option maxRecDepth 100000 in
set_option maxHeartbeats 400000 in
theorem bytes_any (w : World) (p : Option Addr) (l : List UInt8) (c B : Nat) (hl : l.length ≤ 140737488351232) (hs : Sl w B p l) (hB : B ≤ w.heap.size) :
    Calls Tryd.prog 7 #[.slice p l.length c] w fun e w' => e = .returned (.slice (some ⟨w.heap.size, 0, none⟩) l.length (l.length + 6)) ∧
      Blk w' w.heap.size 5 (l.map bv ++ List.replicate 6 (.int .u8 165)) ∧ Below w.heap.size w w' := by
  obtain ⟨i0, hi, hz0, hz1, hz2⟩ := info_parts infoU8
  have hmk : ∀ u : World, (Instr.makeSlice 22 (.int .i64 (l.length : Int)) (.int .i64 ((l.length : Int) + 6))).run Tryd.prog u =
      .ok (.slice (some ⟨u.heap.size, 0, none⟩) l.length (l.length + 6)) (u.alloc (.cells (List.replicate (l.length + 6) (Value.int .u8 0)).toArray 5)) := fun u => by
    have h := run_make (P := Tryd.prog) u 22 5 i0 (.int .u8 0) Tryd.underlying22 hi hz0 .i64 .i64 (l.length : Int) ((l.length : Int) + 6) (by omega) (by omega) (by rw [hz2]; omega) (by omega)
    have e : ((l.length : Int) + 6).toNat = l.length + 6 := by omega
    rw [e] at h
    have e2 : madeCells #[Value.int .u8 0] (l.length + 6) = (List.replicate (l.length + 6) (Value.int .u8 0)).toArray := by
      apply Array.ext'
      rw [toList_madeCells_one]
    simpa [hz1, Value.cells, e2] using h
  go_enter Tryd.func7, Tryd.ntmps7
  go_wp2_with (with_reducible refine wpList_copy_splice rfl (.tmp 12) (.tmp 13) 22 22 rfl 5 Tryd.underlying22 sizeU8 _ p _ _ l.length c rfl rfl w.heap.size 0 (List.replicate (l.length + 6) (Value.int .u8 0)) 5 (heap_alloc_new _ _) (l.map bv) (by simp) (fun h => ⟨rfl, hs.alloc_src hB _ (by simpa using h)⟩) (by simp) (bvs_one l) w.heap.size w ((Below.refl _ _).alloc (Nat.le_refl _) _) (Nat.le_refl _) ?_; intro w1 hg1 hb1)
  have hg2 : Blk w1 w.heap.size 5 (l.map bv ++ marks 0) := by
    have := hg1.out
    unfold Blk
    rw [this, splice_front _ _ (by simp)]
    congr 3
    simp [marks]
  clear hg1
  go_loopw [24] (fun i wr => ∃ k : Nat, k ≤ 6 ∧ i = .int .i64 k ∧ Blk wr w.heap.size 5 (l.map bv ++ marks k) ∧ Below w.heap.size w wr) (fun i _ => 6 - (intOf i).toNat)
  case atStart => exact ⟨0, by omega, rfl, hg2, hb1⟩
  case round =>
    obtain ⟨k, hk, rfl, hgr, hbr⟩ := hrel
    by_cases hlt : k < 6
    · have hc : wr.cell? ⟨w.heap.size, l.length + k, none⟩ = some (.int .u8 0) := by
        rw [hgr.cell, marks_get l k hlt]
      have hf : wr.frozen? ⟨w.heap.size, l.length + k, none⟩ = false := hgr.frozen _
      have hg3 := hgr.set_ (l.length + k) (.int .u8 165)
      rw [marks_set l k hlt] at hg3
      go_wp2
      go_roundw
      case rel => exact ⟨k + 1, by omega, by go_num, hg3, hbr.setCell (Nat.le_refl _) _⟩
      case measure => simp [intOf]; omega
    · obtain rfl : k = 6 := by omega
      go_wp2
      go_ret
      exact ⟨rfl, hgr, hbr⟩
end Go.Proofs.YtgedbeghegncoaaDoor
