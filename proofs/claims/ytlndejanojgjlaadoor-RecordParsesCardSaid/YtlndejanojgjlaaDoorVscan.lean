/- What parsing a varint answers, as functions of the bytes: where it ends, its number, the error's number; and that a put one is parsed as it was. No condition. -/
import Derived.Test.YtlndejanojgjlaaDoorVput
import Derived.Test.YtlndejanojgjlaaDoorNum
import Derived.Laws.BitsAllLaws
import Derived.Laws.BitsLemmas
namespace Go.Proofs.YtlndejanojgjlaaDoor
open Go.RowKit

/-- How many bytes there are ahead of the last one, of the first f. -/
def scan : Nat → List UInt8 → Nat
  | 0, _ => 0
  | _, [] => 0
  | f + 1, x :: t => if 128 ≤ x.toNat then scan f t + 1 else 0
/-- The number of a varint's bytes. -/
def vnum : List UInt8 → Nat
  | [] => 0
  | x :: t => x.toNat % 128 + 128 * vnum t
/-- The number, how many bytes, the error's number. -/
def vparse (l : List UInt8) : Nat × Nat × Nat :=
  if scan 10 l = 10 ∨ scan 10 l = 9 ∧ 1 < (l.getD 9 0).toNat then (0, 0, 4)
  else if scan 10 l = l.length then (0, 0, 2)
  else (vnum (l.take (scan 10 l + 1)), scan 10 l + 1, 0)

theorem scan_le : ∀ (f : Nat) (l : List UInt8), scan f l ≤ f ∧ scan f l ≤ l.length
  | 0, _ => by simp [scan]
  | _ + 1, [] => by simp [scan]
  | f + 1, x :: t => by
    have := scan_le f t
    unfold scan
    split <;> simp <;> omega
theorem scan_eq : ∀ (f : Nat) (l : List UInt8) (k : Nat), k ≤ f → k ≤ l.length → (∀ (i : Nat) x, i < k → l[i]? = some x → 128 ≤ x.toNat) → (k = f ∨ k = l.length ∨ ∃ x, l[k]? = some x ∧ x.toNat < 128) → scan f l = k
  | 0, l, k, h, _, _, _ => by
    obtain rfl : k = 0 := by omega
    rfl
  | f + 1, [], k, _, h, _, _ => by
    obtain rfl : k = 0 := by simpa using h
    rfl
  | f + 1, x :: t, 0, _, _, _, he => by
    rcases he with h | h | ⟨y, hy, hlt⟩
    · omega
    · simp at h
    · simp at hy
      subst hy
      unfold scan
      rw [if_neg (by omega)]
  | f + 1, x :: t, k + 1, h1, h2, hb, he => by
    have h0 := hb 0 x (by omega) rfl
    unfold scan
    rw [if_pos h0, scan_eq f t k (by omega) (by simpa using h2) (fun i y hi hy => hb (i + 1) y (by omega) (by simpa using hy)) (by
      rcases he with h | h | ⟨y, hy, hlt⟩
      · exact .inl (by omega)
      · exact .inr (.inl (by simpa using h))
      · exact .inr (.inr ⟨y, by simpa using hy, hlt⟩))]

/-- All of the first k are 128 or more. -/
def More (l : List UInt8) (k : Nat) : Prop := ∀ (i : Nat) x, i < k → l[i]? = some x → 128 ≤ x.toNat
theorem More.zero (l : List UInt8) : More l 0 := fun _ _ h => absurd h (Nat.not_lt_zero _)
theorem More.succ {l : List UInt8} {k : Nat} (h : More l k) {y : UInt8} (hy : l[k]? = some y) (h128 : 128 ≤ y.toNat) : More l (k + 1) := fun i x hi hx => by
  rcases Nat.lt_or_ge i k with hlt | hge
  · exact h i x hlt hx
  · obtain rfl : i = k := by omega
    rw [hy] at hx
    injection hx with hx
    rw [← hx]
    exact h128
theorem parse_ok {l : List UInt8} {k : Nat} (h : More l k) (hk : k ≤ 9) {y : UInt8} (hy : l[k]? = some y) (hlt : y.toNat < 128) (h9 : k = 9 → y.toNat ≤ 1) : vparse l = (vnum (l.take (k + 1)), k + 1, 0) := by
  have hkl : k < l.length := (List.getElem?_eq_some_iff.1 hy).1
  have hs : scan 10 l = k := scan_eq 10 l k (by omega) (by omega) h (.inr (.inr ⟨y, hy, hlt⟩))
  unfold vparse
  rw [hs, if_neg, if_neg (by omega)]
  rintro (h10 | ⟨rfl, h1⟩)
  · omega
  · have : l.getD 9 0 = y := by simp [List.getD, hy]
    rw [this] at h1
    have := h9 rfl
    omega
theorem parse_short {l : List UInt8} (h : More l l.length) (hk : l.length ≤ 9) : vparse l = (0, 0, 2) := by
  have hs : scan 10 l = l.length := scan_eq 10 l l.length (by omega) (by omega) h (.inr (.inl rfl))
  unfold vparse
  rw [hs, if_neg, if_pos rfl]
  rintro (h10 | ⟨h9, h1⟩)
  · omega
  · have : l.getD 9 0 = 0 := by simp [List.getD, show l.length ≤ 9 by omega]
    rw [this] at h1
    simp at h1
theorem parse_bad {l : List UInt8} (h : More l 9) {y : UInt8} (hy : l[9]? = some y) (h1 : 1 < y.toNat) : vparse l = (0, 0, 4) := by
  have hkl : 9 < l.length := (List.getElem?_eq_some_iff.1 hy).1
  unfold vparse
  rw [if_pos]
  by_cases h128 : 128 ≤ y.toNat
  · exact .inl (scan_eq 10 l 10 (by omega) (by omega) (h.succ hy h128) (.inl rfl))
  · refine .inr ⟨scan_eq 10 l 9 (by omega) (by omega) h (.inr (.inr ⟨y, hy, by omega⟩)), ?_⟩
    have : l.getD 9 0 = y := by simp [List.getD, hy]
    rw [this]
    exact h1

theorem vnum_append (a b : List UInt8) : vnum (a ++ b) = vnum a + 128 ^ a.length * vnum b := by
  induction a with
  | nil => simp [vnum]
  | cons x a ih =>
    simp only [vnum, List.cons_append, ih, List.length_cons, Nat.pow_succ, Nat.mul_add, ← Nat.add_assoc]
    rw [Nat.mul_comm (128 ^ a.length) 128, Nat.mul_assoc]
theorem vnum_snoc (l : List UInt8) (k : Nat) (y : UInt8) (h : l[k]? = some y) : vnum (l.take (k + 1)) = vnum (l.take k) + 128 ^ k * (y.toNat % 128) := by
  obtain ⟨hk, rfl⟩ := List.getElem?_eq_some_iff.1 h
  rw [List.take_succ_eq_append_getElem hk, vnum_append, List.length_take, Nat.min_eq_left (by omega)]
  simp [vnum]
theorem vnum_lt (l : List UInt8) : vnum l < 128 ^ l.length := by
  induction l with
  | nil => simp [vnum]
  | cons x l ih =>
    simp only [vnum, List.length_cons, Nat.pow_succ]
    omega
theorem vnum_take_lt (l : List UInt8) (k : Nat) : vnum (l.take k) < 128 ^ k :=
  Nat.lt_of_lt_of_le (vnum_lt _) (Nat.pow_le_pow_right (by omega) (by simp; omega))
/-- The next byte's bits ahead of the others. -/
theorem or_seven (a x k : Nat) (ha : a < 128 ^ k) (hx : x < 128) (hk : k ≤ 9) (h9 : k = 9 → x ≤ 1) :
    bits .or .u64 (a : Int) (IntKind.u64.wrap ((x : Int) * 2 ^ (7 * k))) = ((a + 128 ^ k * x : Nat) : Int) := by
  have h2 : (128 : Nat) ^ k = 2 ^ (7 * k) := by rw [Nat.pow_mul]
  have hc : (2 : Int) ^ (7 * k) = ((128 ^ k : Nat) : Int) := by rw [h2]; simp
  have hm : 128 ^ k * x < 18446744073709551616 ∧ 128 ^ k ≤ 9223372036854775808 := by
    rcases Nat.lt_or_ge k 9 with h | h
    · have hP : 128 ^ k ≤ 128 ^ 8 := Nat.pow_le_pow_right (by omega) (by omega)
      have h8 : (128 : Nat) ^ 8 = 72057594037927936 := by decide
      have := Nat.mul_le_mul hP (show x ≤ 127 by omega)
      omega
    · obtain rfl : k = 9 := by omega
      have h8 : (128 : Nat) ^ 9 = 9223372036854775808 := by decide
      have := Nat.mul_le_mul_left (128 ^ 9) (h9 rfl)
      omega
  have hor : a ||| 128 ^ k * x = a + 128 ^ k * x := by
    rw [h2] at ha ⊢
    rw [Nat.or_comm, Nat.add_comm]
    exact (Nat.two_pow_add_eq_or_of_lt ha x).symm
  have e : (x : Int) * ((128 ^ k : Nat) : Int) = ((128 ^ k * x : Nat) : Int) := by rw [← Int.natCast_mul, Nat.mul_comm]
  rw [hc, e]
  generalize 128 ^ k * x = m at *
  rw [IntWalk.u64_in _ ⟨by omega, by omega⟩, u64_or_nat a m (by omega) (by omega), hor]

/-- What is put is parsed as it was, whatever stands behind it. -/
theorem vput_more : ∀ (n : Nat) (t : List UInt8), More (vput n ++ t) ((vput n).length - 1) ∧ (∃ y, (vput n ++ t)[(vput n).length - 1]? = some y ∧ y.toNat < 128) ∧ vnum (vput n) = n := by
  intro n t
  induction n using Nat.strongRecOn with
  | _ n ih =>
    by_cases hs : n < 128
    · have e : (UInt8.ofNat n).toNat = n := by rw [UInt8.toNat_ofNat']; exact Nat.mod_eq_of_lt (by omega)
      rw [vput_small hs]
      refine ⟨More.zero _, ⟨UInt8.ofNat n, rfl, by omega⟩, ?_⟩
      simp only [vnum, e]
      omega
    · obtain ⟨h1, ⟨y, hy, hlt⟩, h3⟩ := ih (n / 128) (by omega)
      have hp := vput_pos (n / 128)
      have e : (UInt8.ofNat (n % 128 + 128)).toNat = n % 128 + 128 := by rw [UInt8.toNat_ofNat']; exact Nat.mod_eq_of_lt (by omega)
      obtain ⟨m, hm⟩ : ∃ m, (vput (n / 128)).length = m + 1 := ⟨_, (Nat.sub_add_cancel hp).symm⟩
      rw [hm] at h1 hy
      rw [vput_big hs, List.length_cons, hm]
      refine ⟨fun i x hi hx => ?_, ⟨y, by simpa using hy, hlt⟩, ?_⟩
      · match i, hx with
        | 0, hx =>
          have hx' : some (UInt8.ofNat (n % 128 + 128)) = some x := hx
          injection hx' with hx'
          rw [← hx', e]
          omega
        | i + 1, hx => exact h1 i x (by omega) (by simpa using hx)
      · simp only [vnum, e, h3]
        omega
theorem vnum_big (l : List UInt8) (k : Nat) (h : k < l.length) : 128 ^ k * ((l[k]).toNat % 128) ≤ vnum l := by
  have h1 : l = l.take k ++ l.drop k := (List.take_append_drop k l).symm
  have h2 := vnum_append (l.take k) (l.drop k)
  rw [← h1, List.length_take, Nat.min_eq_left (by omega), List.drop_eq_getElem_cons h, vnum] at h2
  have := Nat.le_mul_of_pos_right (128 ^ k * (l[k].toNat % 128)) (Nat.one_pos)
  rw [h2, Nat.mul_add]
  omega
theorem vparse_vput (n : Nat) (t : List UInt8) (hn : n < 18446744073709551616) : vparse (vput n ++ t) = (n, (vput n).length, 0) := by
  obtain ⟨h1, ⟨y, hy, hlt⟩, h3⟩ := vput_more n t
  have hp := vput_pos n
  have ht := vput_ten n hn
  rw [parse_ok h1 (by omega) hy hlt ?_, Nat.sub_add_cancel hp, List.take_left, h3]
  intro h9
  have hl : (vput n).length - 1 < (vput n).length := by omega
  have hb := vnum_big (vput n) _ hl
  rw [List.getElem?_append_left hl, List.getElem?_eq_getElem hl] at hy
  injection hy with hy
  rw [hy, h3, h9, Nat.mod_eq_of_lt hlt] at hb
  rcases Nat.lt_or_ge 1 y.toNat with h | h
  · have : 128 ^ 9 * 2 ≤ 128 ^ 9 * y.toNat := Nat.mul_le_mul_left _ h
    omega
  · exact h
theorem vnum_step (t : List UInt8) (j : Nat) (y : UInt8) (h : t[j]? = some y) : vnum (t.drop j) = y.toNat % 128 + 128 * vnum (t.drop (j + 1)) := by
  obtain ⟨hj, rfl⟩ := List.getElem?_eq_some_iff.1 h
  rw [List.drop_eq_getElem_cons hj]; rfl
theorem vnum_drop_le : ∀ (t : List UInt8) (j : Nat), vnum (t.drop j) ≤ vnum t
  | t, 0 => Nat.le_refl _
  | [], j + 1 => by simp
  | x :: t, j + 1 => by
    have := vnum_drop_le t j
    simp only [List.drop_succ_cons, vnum]
    omega
theorem vnum_ok_lt {l : List UInt8} {k : Nat} (hk : k ≤ 9) {y : UInt8} (hy : l[k]? = some y) (hlt : y.toNat < 128) (h9 : k = 9 → y.toNat ≤ 1) : vnum (l.take (k + 1)) < 18446744073709551616 := by
  have h1 := vnum_take_lt l k
  rw [vnum_snoc l k y hy, Nat.mod_eq_of_lt hlt]
  have h8 : (128 : Nat) ^ 8 = 72057594037927936 := by decide
  have h99 : (128 : Nat) ^ 9 = 9223372036854775808 := by decide
  rcases Nat.lt_or_ge k 9 with h | h
  · have hP : 128 ^ k ≤ 128 ^ 8 := Nat.pow_le_pow_right (by omega) (by omega)
    have := Nat.mul_le_mul hP (show y.toNat ≤ 127 by omega)
    omega
  · obtain rfl : k = 9 := by omega
    have := Nat.mul_le_mul_left (128 ^ 9) (h9 rfl)
    omega
theorem vparse_size (l : List UInt8) (h : (vparse l).2.2 = 0) : 0 < (vparse l).2.1 ∧ (vparse l).2.1 ≤ l.length ∧ (vparse l).2.1 ≤ 10 := by
  have hs := scan_le 10 l
  unfold vparse at h ⊢
  split at h
  · cases h
  · split at h
    · cases h
    · rename_i h1 h2
      rw [if_neg h1, if_neg h2]
      exact ⟨by simp, by simp; omega, by simp; omega⟩
end Go.Proofs.YtlndejanojgjlaaDoor
