/- The contracts of octets.put and Put32: the bytes, and a number's bytes behind them, in memory of the call's own. Condition: fewer than 2^46 bytes. -/
import Derived.Test.YtgedbeghegncoaaDoorProg
import Derived.Test.YtgedbeghegncoaaDoorMem
import Derived.Test.YtgedbeghegncoaaDoorNums
import Derived.Test.YtgedbeghegncoaaDoorJoin
namespace Go.Proofs.YtgedbeghegncoaaDoor
open Go.RowKit

theorem le_val (n k : Nat) : bv (UInt8.ofNat (n / 256 ^ k % 256)) = .int .u8 ((n : Int) / 2 ^ (8 * k) % 256) := by
  have h : (256 : Nat) ^ k = 2 ^ (8 * k) := by rw [Nat.pow_mul]
  have h2 : (UInt8.ofNat (n / 256 ^ k % 256)).toNat = n / 256 ^ k % 256 := by
    rw [UInt8.toNat_ofNat']
    omega
  unfold bv
  rw [h2, h]
  congr 1
theorem put_get (l : List UInt8) (n k width : Nat) (rest : List Value) (h : k < width) :
    ((l ++ le n k ++ List.replicate (width - k) 0).map bv ++ rest)[l.length + k]? = some (.int .u8 0) := by
  rw [List.getElem?_append_left (by simp [le_length]; omega), List.getElem?_map, List.getElem?_append_right (by simp [le_length])]
  simp [le_length, show 0 < width - k by omega, bv]
theorem put_set (l : List UInt8) (n k width : Nat) (rest : List Value) (h : k < width) :
    ((l ++ le n k ++ List.replicate (width - k) 0).map bv ++ rest).set (l.length + k) (bv (UInt8.ofNat (n / 256 ^ k % 256))) = (l ++ le n (k + 1) ++ List.replicate (width - (k + 1)) 0).map bv ++ rest := by
  rw [List.set_append_left _ _ (by simp [le_length]; omega), ← List.map_set, List.set_append_right _ _ (by simp [le_length]), le_succ]
  obtain ⟨m, hm⟩ : ∃ m, width - k = m + 1 := ⟨width - k - 1, by omega⟩
  have hm2 : width - (k + 1) = m := by omega
  rw [hm, hm2]
  simp [le_length, List.replicate_succ]

set_option maxRecDepth 100000 in
set_option maxHeartbeats 1000000 in
theorem put_any (w : World) (p : Option Addr) (l : List UInt8) (c n width B : Nat) (hB : B ≤ w.heap.size) (hl : l.length ≤ 70368744177664) (h0 : 0 < width) (hw : width ≤ 8) (_hn : n < 18446744073709551616) (hs : Sl w B p l) :
    Calls Tryd.prog 27 #[.slice p l.length c, .int .u64 (n : Int), .int .i64 (width : Int)] w (Owned w (l ++ le n width)) := by
  obtain ⟨i0, hi, hz0, hz1, hz2⟩ := info_parts infoB
  have hmk : ∀ u : World, (Instr.makeSlice 22 (.int .i64 (width : Int)) (.int .i64 (width : Int))).run Tryd.prog u =
      .ok (.slice (some ⟨u.heap.size, 0, none⟩) width width) (u.alloc (.cells (List.replicate width (Value.int .u8 0)).toArray 5)) := fun u => by
    have h := run_make (P := Tryd.prog) u 22 5 i0 (.int .u8 0) Tryd.underlying22 hi hz0 .i64 .i64 (width : Int) (width : Int) (by omega) (by omega) (by rw [hz2]; omega) (by omega)
    have e : (width : Int).toNat = width := by omega
    rw [e] at h
    have e2 : madeCells #[Value.int .u8 0] width = (List.replicate width (Value.int .u8 0)).toArray := by
      apply Array.ext'
      rw [toList_madeCells_one]
    simpa [hz1, Value.cells, e2] using h
  go_enter Tryd.func27, Tryd.ntmps27
  go_wp2_with fail
  have hp : Parts ((w.alloc (Obj.cells (Array.replicate width (Value.int .u8 0)) 5)).alloc (Obj.cells #[Value.slice p l.length c, Value.slice (some { block := w.heap.size, off := 0 }) width width] 22))
      (w.heap.size + 2) (some ⟨w.heap.size + 1, 0, none⟩) [⟨p, l, c⟩, ⟨some ⟨w.heap.size, 0, none⟩, List.replicate width 0, width⟩] := by
    have hz : Array.replicate width (Value.int .u8 0) = (List.replicate width (Value.int .u8 0)).toArray := by simp
    rw [hz]
    have hb : Blk (w.alloc (Obj.cells (List.replicate width (Value.int .u8 0)).toArray 5)) w.heap.size 5 (List.replicate width (Value.int .u8 0)) := Blk.new _ _ _
    have h := Parts.made (u := w.alloc (Obj.cells (List.replicate width (Value.int .u8 0)).toArray 5)) (B := w.heap.size + 1) (t := 22) (xs := [⟨p, l, c⟩, ⟨some ⟨w.heap.size, 0, none⟩, List.replicate width 0, width⟩]) rfl (by
      intro x hx
      simp only [List.mem_cons, List.not_mem_nil, or_false] at hx
      rcases hx with rfl | rfl
      · exact (hs.below ((Below.refl _ _).alloc hB _)).more (by omega)
      · refine Sl.of_blk hb (by omega) fun i x hx => ?_
        have hi : i < width := by
          rcases Nat.lt_or_ge i width with h | h
          · exact h
          · rw [List.getElem?_eq_none (by simpa using h)] at hx; cases hx
        rw [List.getElem?_replicate, if_pos hi] at hx ⊢
        cases hx
        rfl) (by simp)
    simpa [Part.val] using h
  refine (join_any _ _ [⟨p, l, c⟩, ⟨some ⟨w.heap.size, 0, none⟩, List.replicate width 0, width⟩] 2 (w.heap.size + 2) (by simp) hp (by simp) (by simp [flat]; omega)).mono ?_
  rintro e w1 ⟨v, rfl, hown, hb⟩
  have hfl : flat [⟨p, l, c⟩, ⟨some ⟨w.heap.size, 0, none⟩, List.replicate width 0, width⟩] = l ++ List.replicate width 0 := by simp [flat]
  rw [hfl] at hown
  obtain ⟨g, cap, rest, rfl, hgb, hblk, hnc, hcm, hcap⟩ := own_blk hown (by simp; omega)
  have hb1 : Below w.heap.size w w1 := (((Below.refl _ _).alloc (Nat.le_refl _) _).alloc (by simp) _).trans (hb.mono (by simp; omega))
  have hg0 : w.heap.size ≤ g := by simp at hgb; omega
  clear hown hfl hp hmk hgb
  simp only [List.length_append, List.length_replicate] at hnc hcap ⊢
  go_wp2_with fail
  go_loopw [15] (fun i wr => ∃ k : Nat, k ≤ width ∧ i = .int .i64 k ∧ Blk wr g 5 ((l ++ le n k ++ List.replicate (width - k) 0).map bv ++ rest) ∧ Below w.heap.size w wr) (fun i _ => width - (intOf i).toNat)
  case atStart => exact ⟨0, by omega, rfl, by simpa [le] using hblk, hb1⟩
  case round =>
    obtain ⟨k, hk, rfl, hgr, hbr⟩ := hrel
    by_cases hlt : k < width
    · have hc : wr.cell? ⟨g, l.length + k, none⟩ = some (.int .u8 0) := by
        rw [hgr.cell, put_get l n k width rest hlt]
      have hf : wr.frozen? ⟨g, l.length + k, none⟩ = false := hgr.frozen _
      have hg3 := hgr.set_ (l.length + k) (bv (UInt8.ofNat (n / 256 ^ k % 256)))
      rw [put_set l n k width rest hlt, le_val] at hg3
      have hk8 : k < 8 := by omega
      go_wp2
      go_roundw
      case rel => exact ⟨k + 1, by omega, by go_num, hg3, hbr.setCell hg0 _⟩
      case measure => simp [intOf]; omega
    · obtain rfl : k = width := by omega
      go_wp2
      go_ret
      have hend : (l ++ le n k ++ List.replicate (k - k) 0) = l ++ le n k := by simp
      rw [hend] at hgr
      refine ⟨_, rfl, ?_, hbr⟩
      have hlen : (l ++ le n k).length = l.length + k := by simp [le_length]
      rw [hlen]
      exact blk_own hgr (by simp [le_length]) hg0 hcap hcm

set_option maxRecDepth 100000 in
theorem put32_any (w : World) (p : Option Addr) (l : List UInt8) (c n B : Nat) (hB : B ≤ w.heap.size) (hl : l.length ≤ 70368744177664) (hn : n < 4294967296) (hs : Sl w B p l) :
    Calls Tryd.prog 20 #[.slice p l.length c, .int .u32 (n : Int)] w (Owned w (l ++ le n 4)) := by
  go_enter Tryd.func20, Tryd.ntmps20
  go_wp2_with fail
  refine (put_any w p l c n 4 B hB hl (by omega) (by omega) (by omega) hs).mono ?_
  rintro e w1 ⟨v, rfl, hown, hb⟩
  go_wp2_with fail
  go_ret
  exact ⟨_, rfl, hown, hb⟩
end Go.Proofs.YtgedbeghegncoaaDoor
