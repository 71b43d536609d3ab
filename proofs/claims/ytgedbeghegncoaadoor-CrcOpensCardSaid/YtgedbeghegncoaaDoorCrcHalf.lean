/- CRC-32 by halves of a byte, and by the program's table. No condition. -/
import Derived.Test.YtgedbeghegncoaaDoorProg
import Derived.Test.YtgedbeghegncoaaDoorMem
import Derived.Test.YtgedbeghegncoaaDoorNums
import Derived.Test.YtgedbeghegncoaaDoorCrcMath
namespace Go.Proofs.YtgedbeghegncoaaDoor
open Go.RowKit

theorem cls_half (x : Nat) : cls 4 x = x / 16 ^^^ cls 4 (x % 16) := by
  have h : x = x % 16 ^^^ 2 ^ 4 * (x / 16) := by
    rw [← join_xor 4 _ _ (Nat.mod_lt _ (by decide))]
    omega
  conv => lhs; rw [h, cls_xor, cls_pow, Nat.xor_comm]
theorem cls_succ (n x : Nat) : cls (n + 1) x = cl (cls n x) := by rw [cls_add]; rfl
theorem cl_one {x : Nat} (h : x % 2 = 1) : cl x = x / 2 ^^^ 3988292384 := by unfold cl; rw [if_pos h]
theorem cl_no {x : Nat} (h : ¬ x % 2 = 1) : cl x = x / 2 := by unfold cl; rw [if_neg h, Nat.xor_zero]
theorem crcF_cons (x : Nat) (l : List UInt8) (k : Nat) (h : k < l.length) : crcF x (l.take (k + 1)) = cls 8 (crcF x (l.take k) ^^^ l[k].toNat) := by
  rw [List.take_succ_eq_append_getElem h, crcF_snoc]
/-- The program's table. -/
def tbl : List Value := (List.range 16).map fun i => .int .u32 (cls 4 i : Nat)
def tblAt (k : Nat) : List Value := ((List.range 16).map fun i => if i < k then .int .u32 (cls 4 i : Nat) else .int .u32 0)
theorem tblAt_zero : tblAt 0 = List.replicate 16 (.int .u32 0) := by
  unfold tblAt
  simp only [Nat.not_lt_zero, if_false]
  rfl
theorem tblAt_all : tblAt 16 = tbl := by
  unfold tblAt tbl
  apply List.map_congr_left
  intro i hi
  rw [if_pos (List.mem_range.1 hi)]
theorem tblAt_length (k : Nat) : (tblAt k).length = 16 := by simp [tblAt]
theorem tblAt_set (k : Nat) (h : k < 16) : (tblAt k).set k (.int .u32 (cls 4 k : Nat)) = tblAt (k + 1) := by
  apply List.ext_getElem?
  intro i
  rw [List.getElem?_set]
  unfold tblAt
  simp only [List.length_map, List.length_range, List.getElem?_map]
  by_cases hi : i < 16
  · rw [List.getElem?_range hi]
    by_cases e : k = i
    · subst e
      simp [h]
    · simp [e, show (i < k + 1) = (i < k) by simp; omega]
  · rw [List.getElem?_eq_none (by simpa using hi)]
    simp [show ¬ k = i by omega]
theorem tblAt_get (k i : Nat) (h : k ≤ i) (hi : i < 16) : (tblAt k)[i]? = some (.int .u32 0) := by
  unfold tblAt
  rw [List.getElem?_map, List.getElem?_range hi]
  simp [show ¬ i < k by omega]
theorem tbl_get (i : Nat) (hi : i < 16) : tbl[i]? = some (.int .u32 (cls 4 i : Nat)) := by
  unfold tbl
  rw [List.getElem?_map, List.getElem?_range hi]
  rfl
end Go.Proofs.YtgedbeghegncoaaDoor
