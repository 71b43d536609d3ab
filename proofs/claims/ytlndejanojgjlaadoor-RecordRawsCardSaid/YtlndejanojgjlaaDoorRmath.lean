/- Records that are put are parsed as they were. No condition. -/
import Derived.Test.YtlndejanojgjlaaDoorProg
import Derived.Test.YtlndejanojgjlaaDoorMem
import Derived.Test.YtlndejanojgjlaaDoorRparse2
import Derived.Test.YtlndejanojgjlaaDoorRcheck
import Derived.Test.YtlndejanojgjlaaDoorRput
namespace Go.Proofs.YtlndejanojgjlaaDoor
open Go.RowKit

theorem tparse_puts {n k : Int} (h : tcheck n k = 0) (t : List UInt8) : tparse (vput (tword n k) ++ t) = (n.toNat, k.toNat, (vput (tword n k)).length, 0) := by
  have hlt := tword_lt h
  have heq := tword_eq h
  obtain ⟨h1, h2, h3⟩ := tcheck_zero h
  have hp := vparse_vput (tword n k) t (by omega)
  have e1 : ((tword n k : Nat) : Int) / 8 = n := by omega
  have e2 : ((tword n k : Nat) : Int) % 8 = k := by omega
  have e3 : tword n k / 8 = n.toNat := by omega
  have e4 : tword n k % 8 = k.toNat := by omega
  unfold tparse
  rw [hp]
  unfold tagOf
  simp only
  rw [if_neg (by omega), if_neg (by omega), e1, e2, if_neg (by omega), e3, e4]

theorem rbody_tail {k : Int} {bits : Nat} {text : List UInt8} (h : Way k bits text 0) (hb : bits < 18446744073709551616) (ht : text.length < 18446744073709551616) (t : List UInt8) :
    rbody k.toNat (rtail k bits text ++ t) = (bits, text, (rtail k bits text).length, 0) := by
  cases h with
  | ok2 hk hb0 =>
    subst hk hb0
    have e : rtail 2 0 text = vput text.length ++ text := rfl
    have hp := vparse_vput text.length (text ++ t) ht
    show rbody 2 _ = _
    rw [e, List.append_assoc]
    unfold rbody
    rw [if_neg (by decide), if_neg (by decide), hp, if_neg (by simp), if_neg (by decide), if_neg (by simp)]
    simp
  | ok0 hk ht0 =>
    subst hk ht0
    have e : rtail 0 bits [] = vput bits := rfl
    have hp := vparse_vput bits t hb
    show rbody 0 _ = _
    rw [e]
    unfold rbody
    rw [if_neg (by decide), if_neg (by decide), hp, if_neg (by simp), if_pos rfl]
  | ok1 hk ht0 =>
    subst hk ht0
    have e : rtail 1 bits [] = le bits 8 := rfl
    have hl := le_length bits 8
    show rbody 1 _ = _
    rw [e]
    unfold rbody
    rw [if_pos rfl, if_neg (by rw [List.length_append]; omega), List.take_append_of_le_length (by omega), List.take_of_length_le (by omega), num_le, hl, Nat.mod_eq_of_lt (by simpa using hb)]
  | ok5 hk ht0 hb5 =>
    subst hk ht0
    have e : rtail 5 bits [] = le bits 4 := rfl
    have hl := le_length bits 4
    show rbody 5 _ = _
    rw [e]
    unfold rbody
    rw [if_neg (by decide), if_pos rfl, if_neg (by rw [List.length_append]; omega), List.take_append_of_le_length (by omega), List.take_of_length_le (by omega), num_le, hl, Nat.mod_eq_of_lt (by simp; omega)]

theorem rcheck_tag {n k : Int} {bits : Nat} {text : List UInt8} (h : rcheck n k bits text = 0) : tcheck n k = 0 := by
  unfold rcheck at h
  split at h
  · rename_i h1; exact absurd h h1
  · omega

theorem rparse_rput {n k : Int} {bits : Nat} {text : List UInt8} (h : rcheck n k bits text = 0) (hb : bits < 18446744073709551616) (ht : text.length < 18446744073709551616) (t : List UInt8) :
    rparse (rput n k bits text ++ t) = (⟨n.toNat, k.toNat, bits, text, rput n k bits text⟩, (rput n k bits text).length, 0) := by
  have htc := rcheck_tag h
  have hw := rcheck_way bits text htc
  rw [h] at hw
  have h1 := tparse_puts htc (rtail k bits text ++ t)
  have h2 := rbody_tail hw hb ht t
  unfold rparse rput
  rw [List.append_assoc, h1]
  simp only [List.drop_left]
  rw [h2]
  simp only [ne_eq, not_true_eq_false, if_false]
  rw [← List.append_assoc, ← List.length_append, List.take_left]
theorem rput_len {n k : Int} {bits : Nat} {text : List UInt8} (h : rcheck n k bits text = 0) (hb : bits < 18446744073709551616) (ht : text.length < 18446744073709551616) : 0 < (rput n k bits text).length ∧ (rput n k bits text).length ≤ text.length + 20 := by
  have htc := rcheck_tag h
  have hw := rcheck_way bits text htc
  rw [h] at hw
  have h1 := vput_pos (tword n k)
  have h2 := vput_ten (tword n k) (by have := tword_lt htc; omega)
  have h3 := vput_ten bits hb
  have h4 := vput_ten text.length ht
  unfold rput
  rw [List.length_append]
  cases hw with
  | ok2 hk hb0 => subst hk; rw [show rtail 2 bits text = vput text.length ++ text from rfl, List.length_append]; omega
  | ok0 hk ht0 => subst hk; rw [show rtail 0 bits text = vput bits from rfl]; omega
  | ok1 hk ht0 => subst hk; rw [show rtail 1 bits text = le bits 8 from rfl, le_length]; omega
  | ok5 hk ht0 hb5 => subst hk; rw [show rtail 5 bits text = le bits 4 from rfl, le_length]; omega
end Go.Proofs.YtlndejanojgjlaaDoor
