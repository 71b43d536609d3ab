/- The contracts of octets.Reader's number, Fixed32, Fixed64, where as many bytes are left as are asked for. Condition: fewer than 2^46 bytes. -/
import Derived.Test.YtlndejanojgjlaaDoorProg
import Derived.Test.YtlndejanojgjlaaDoorMem
import Derived.Test.YtlndejanojgjlaaDoorReader
import Derived.WalkSpells
import Derived.Laws.BitsAllLaws
import Derived.Laws.BitsLemmas
namespace Go.Proofs.YtlndejanojgjlaaDoor
open Go.RowKit

/-- The number of bytes, the lowest first. -/
def num : List UInt8 → Nat
  | [] => 0
  | x :: l => x.toNat + 256 * num l
theorem num_lt (l : List UInt8) : num l < 256 ^ l.length := by
  induction l with
  | nil => simp [num]
  | cons x l ih =>
    have := x.toNat_lt
    simp only [num, List.length_cons, Nat.pow_succ]
    omega
theorem num_append (a b : List UInt8) : num (a ++ b) = num a + 256 ^ a.length * num b := by
  induction a with
  | nil => simp [num]
  | cons x a ih =>
    simp only [num, List.cons_append, ih, List.length_cons, Nat.pow_succ, Nat.mul_add, ← Nat.add_assoc]
    rw [Nat.mul_comm (256 ^ a.length) 256, Nat.mul_assoc]
theorem num_snoc (l : List UInt8) (k : Nat) (h : k < l.length) : num (l.take (k + 1)) = num (l.take k) + 256 ^ k * l[k].toNat := by
  rw [List.take_succ_eq_append_getElem h, num_append, List.length_take, Nat.min_eq_left (by omega)]
  simp [num]

theorem num_le (n k : Nat) : num (le n k) = n % 256 ^ k := by
  induction k with
  | zero => simp [le, num, Nat.mod_one]
  | succ k ih =>
    have h : (UInt8.ofNat (n / 256 ^ k % 256)).toNat = n / 256 ^ k % 256 := by
      rw [UInt8.toNat_ofNat']
      omega
    rw [le_succ, num_append, ih, le_length, Nat.mod_pow_succ]
    simp [num, h]
theorem or_step (a x j : Nat) (ha : a < 256 ^ j) (hx : x < 256) (hj : j < 8) :
    bits .or .u64 (a : Int) (IntKind.u64.wrap (IntKind.u64.wrap (x : Int) * 2 ^ (8 * j))) = ((a + 256 ^ j * x : Nat) : Int) := by
  have hP : 256 ^ j ≤ 256 ^ 7 := Nat.pow_le_pow_right (by omega) (by omega)
  have h7 : (256 : Nat) ^ 7 = 72057594037927936 := by decide
  have h2 : (256 : Nat) ^ j = 2 ^ (8 * j) := by rw [Nat.pow_mul]
  have hc : (2 : Int) ^ (8 * j) = ((256 ^ j : Nat) : Int) := by rw [h2]; simp
  have hm : 256 ^ j * x ≤ 256 ^ 7 * 255 := Nat.mul_le_mul hP (by omega)
  have hor : a ||| 256 ^ j * x = a + 256 ^ j * x := by
    rw [h2] at ha ⊢
    rw [Nat.or_comm, Nat.add_comm]
    exact (Nat.two_pow_add_eq_or_of_lt ha x).symm
  have hw : IntKind.u64.wrap (x : Int) = x := IntWalk.u64_in _ ⟨by omega, by omega⟩
  have e : (x : Int) * ((256 ^ j : Nat) : Int) = ((256 ^ j * x : Nat) : Int) := by rw [← Int.natCast_mul, Nat.mul_comm]
  rw [hw, hc, e]
  generalize 256 ^ j * x = m at *
  rw [IntWalk.u64_in _ ⟨by omega, by omega⟩, u64_or_nat a m (by omega) (by omega), hor]

set_option maxRecDepth 100000 in
set_option maxHeartbeats 1000000 in
theorem number_any (w : World) (r : Nat) (l : List UInt8) (k n : Nat) (hr : Rd w r l k) (hl : l.length ≤ 70368744177672) (hk : k + n ≤ l.length) (hn : n ≤ 8) :
    Calls Tryd.prog 57 #[.pointer (some ⟨r, 0, none⟩), .int .i64 (n : Int)] w fun e w' =>
      e = .returned (.tuple #[.int .u64 (num ((l.drop k).take n) : Int), .nilIface]) ∧ Rd w' r l (k + n) ∧ w.grownBy w' (some r) := by
  have hlen : ((l.drop k).take n).length = n := by simp; omega
  obtain ⟨t, ht⟩ : ∃ t, t = (l.drop k).take n := ⟨_, rfl⟩
  rw [← ht] at hlen ⊢
  go_enter Tryd.func57, Tryd.ntmps57
  go_wp2_with fail
  refine (next_any w r l k n hr hl hk).mono ?_
  rintro e w1 ⟨q, c, rfl, hs, hrd, hg⟩
  rw [← ht] at hs
  have htn : t.take n = t := List.take_of_length_le (by omega)
  have HT := Lib.hid htn
  clear ht htn
  have hlen1 : t.length ≤ n := by omega
  have hlen2 : n ≤ t.length := by omega
  clear hlen
  go_wp2_with fail
  go_loop [20, 8] (fun i v => ∃ j : Nat, j ≤ n ∧ i = .int .i64 j ∧ v = .int .u64 ((num (t.take j) : Nat) : Int)) (fun i _ => n - (intOf i).toNat)
  case atStart => exact ⟨0, by omega, rfl, by simp [num]⟩
  case round =>
    obtain ⟨j, hj, rfl, rfl⟩ := hrel
    by_cases hlt : j < n
    · obtain ⟨b, o, rfl, hb, hc⟩ := hs.at_ (i := j) (by omega)
      have hs1 := num_snoc t j (by omega)
      have hlt1 := num_lt (t.take j)
      rw [List.length_take, Nat.min_eq_left (by omega)] at hlt1
      have hor := or_step (num (t.take j)) t[j].toNat j hlt1 (UInt8.toNat_lt _) (by omega)
      rw [← hs1] at hor
      have HO := Lib.hid hor
      clear hs1 hlt1 hor
      go_wp2
      go_round
      case rel => exact ⟨j + 1, by omega, by go_num, by rw [HO.out]⟩
      case measure => simp [intOf]; omega
    · obtain rfl : j = n := by omega
      rw [HT.out]
      go_wp2
      go_ret2
      exact ⟨rfl, hrd, hg⟩

set_option maxRecDepth 100000 in
/-- Fixed32, where four bytes are left. -/
theorem fixed32_any (w : World) (r : Nat) (l : List UInt8) (k : Nat) (hr : Rd w r l k) (hl : l.length ≤ 70368744177672) (hk : k + 4 ≤ l.length) :
    Calls Tryd.prog 44 #[.pointer (some ⟨r, 0, none⟩)] w fun e w' =>
      e = .returned (.tuple #[.int .u32 (num ((l.drop k).take 4) : Int), .nilIface]) ∧ Rd w' r l (k + 4) ∧ w.grownBy w' (some r) := by
  have hlt := num_lt ((l.drop k).take 4)
  rw [show ((l.drop k).take 4).length = 4 by simp; omega, show (256 : Nat) ^ 4 = 4294967296 by decide] at hlt
  go_enter Tryd.func44, Tryd.ntmps44
  go_wp2_with fail
  refine (number_any w r l k 4 hr hl hk (by omega)).mono ?_
  rintro e w1 ⟨rfl, hrd, hg⟩
  go_wp2_with fail
  go_ret2
  exact ⟨rfl, hrd, hg⟩
set_option maxRecDepth 100000 in
/-- Fixed64, where eight bytes are left. -/
theorem fixed64_any (w : World) (r : Nat) (l : List UInt8) (k : Nat) (hr : Rd w r l k) (hl : l.length ≤ 70368744177672) (hk : k + 8 ≤ l.length) :
    Calls Tryd.prog 41 #[.pointer (some ⟨r, 0, none⟩)] w fun e w' =>
      e = .returned (.tuple #[.int .u64 (num ((l.drop k).take 8) : Int), .nilIface]) ∧ Rd w' r l (k + 8) ∧ w.grownBy w' (some r) := by
  go_enter Tryd.func41, Tryd.ntmps41
  go_wp2_with fail
  refine (number_any w r l k 8 hr hl hk (by omega)).mono ?_
  rintro e w1 ⟨rfl, hrd, hg⟩
  go_wp2_with fail
  go_ret2
  exact ⟨rfl, hrd, hg⟩
end Go.Proofs.YtlndejanojgjlaaDoor
