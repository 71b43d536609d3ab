/- Numbers as bytes, the lowest first, and bytes as numbers. No condition. -/
import Derived.Test.YtgedbeghegncoaaDoorProg
import Derived.Test.YtgedbeghegncoaaDoorMem
namespace Go.Proofs.YtgedbeghegncoaaDoor
open Go.RowKit

/-- The lowest k bytes of a number, the lowest first. -/
def le (n k : Nat) : List UInt8 := (List.range k).map fun i => UInt8.ofNat (n / 256 ^ i % 256)
theorem le_length (n k : Nat) : (le n k).length = k := by simp [le]
theorem le_succ (n k : Nat) : le n (k + 1) = le n k ++ [UInt8.ofNat (n / 256 ^ k % 256)] := by simp [le, List.range_succ]

/-- The number of bytes, the lowest first. -/
def num : List UInt8 → Nat
  | [] => 0
  | x :: l => x.toNat + 256 * num l
theorem num_lt (l : List UInt8) : num l < 256 ^ l.length := by
  induction l with
  | nil => simp [num]
  | cons x l ih =>
    have := x.toNat_lt
    simp only [num, List.length_cons, Nat.pow_succ]
    omega
theorem num_append (a b : List UInt8) : num (a ++ b) = num a + 256 ^ a.length * num b := by
  induction a with
  | nil => simp [num]
  | cons x a ih =>
    simp only [num, List.cons_append, ih, List.length_cons, Nat.pow_succ, Nat.mul_add, ← Nat.add_assoc]
    rw [Nat.mul_comm (256 ^ a.length) 256, Nat.mul_assoc]
theorem num_snoc (l : List UInt8) (k : Nat) (h : k < l.length) : num (l.take (k + 1)) = num (l.take k) + 256 ^ k * l[k].toNat := by
  rw [List.take_succ_eq_append_getElem h, num_append, List.length_take, Nat.min_eq_left (by omega)]
  simp [num]

theorem num_le (n k : Nat) : num (le n k) = n % 256 ^ k := by
  induction k with
  | zero => simp [le, num, Nat.mod_one]
  | succ k ih =>
    have h : (UInt8.ofNat (n / 256 ^ k % 256)).toNat = n / 256 ^ k % 256 := by
      rw [UInt8.toNat_ofNat']
      omega
    rw [le_succ, num_append, ih, le_length, Nat.mod_pow_succ]
    simp [num, h]
end Go.Proofs.YtgedbeghegncoaaDoor
