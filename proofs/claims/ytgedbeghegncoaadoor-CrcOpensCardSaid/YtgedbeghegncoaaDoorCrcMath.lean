/- CRC-32, bit by bit: it is linear, and no step forgets. No condition. -/
import Derived.Test.YtgedbeghegncoaaDoorProg
import Derived.Test.YtgedbeghegncoaaDoorMem
import Derived.Test.YtgedbeghegncoaaDoorNums
namespace Go.Proofs.YtgedbeghegncoaaDoor
open Go.RowKit

/-- A byte ahead of a number: the two don't share a bit. -/
theorem join_xor (i a b : Nat) (h : b < 2 ^ i) : b + 2 ^ i * a = b ^^^ 2 ^ i * a := by
  apply Nat.eq_of_testBit_eq
  intro j
  rw [Nat.add_comm, Nat.testBit_two_pow_mul_add a h, Nat.testBit_xor, Nat.testBit_two_pow_mul]
  by_cases hj : j < i
  · simp [hj, show ¬ i ≤ j by omega]
  · have hb : b.testBit j = false := Nat.testBit_lt_two_pow (Nat.lt_of_lt_of_le h (Nat.pow_le_pow_right (by omega) (by omega)))
    simp [hj, hb, show i ≤ j by omega]
theorem mul_xor (i a b : Nat) : 2 ^ i * (a ^^^ b) = 2 ^ i * a ^^^ 2 ^ i * b := by
  apply Nat.eq_of_testBit_eq
  intro j
  simp only [Nat.testBit_xor, Nat.testBit_two_pow_mul]
  by_cases hj : i ≤ j <;> simp [hj]
theorem div_xor (a b : Nat) : (a ^^^ b) / 2 = a / 2 ^^^ b / 2 := by
  apply Nat.eq_of_testBit_eq
  intro j
  simp only [Nat.testBit_xor, Nat.testBit_div_two]
theorem xor_lt {a b : Nat} (i : Nat) (ha : a < 2 ^ i) (hb : b < 2 ^ i) : a ^^^ b < 2 ^ i := Nat.xor_lt_two_pow ha hb

/-- One bit's step. -/
def cl (x : Nat) : Nat := x / 2 ^^^ (if x % 2 = 1 then 3988292384 else 0)
theorem cl_xor (a b : Nat) : cl (a ^^^ b) = cl a ^^^ cl b := by
  unfold cl
  rw [div_xor]
  have h : (a ^^^ b) % 2 = (a % 2 + b % 2) % 2 := by
    have := Nat.testBit_xor a b 0
    simp only [Nat.testBit_zero] at this
    rcases Nat.mod_two_eq_zero_or_one a with ha | ha <;> rcases Nat.mod_two_eq_zero_or_one b with hb | hb <;> rcases Nat.mod_two_eq_zero_or_one (a ^^^ b) with hc | hc <;> simp [ha, hb, hc] at this ⊢
  rcases Nat.mod_two_eq_zero_or_one a with ha | ha <;> rcases Nat.mod_two_eq_zero_or_one b with hb | hb
  · rw [h, ha, hb]; simp
  · rw [h, ha, hb]; simp [Nat.xor_assoc]
  · rw [h, ha, hb]
    simp only [Nat.add_zero, Nat.one_mod, if_true, if_neg (show ¬ (0 : Nat) = 1 by decide), Nat.xor_zero]
    rw [Nat.xor_assoc, Nat.xor_assoc, Nat.xor_comm (b / 2)]
  · rw [h, ha, hb]
    simp only [show (1 + 1) % 2 = 0 from rfl, if_true, if_neg (show ¬ (0 : Nat) = 1 by decide), Nat.xor_zero]
    rw [Nat.xor_assoc, ← Nat.xor_assoc 3988292384, Nat.xor_comm 3988292384 (b / 2), Nat.xor_assoc (b / 2), Nat.xor_self, Nat.xor_zero]
theorem cl_lt {x : Nat} (h : x < 2 ^ 32) : cl x < 2 ^ 32 := by
  unfold cl
  exact xor_lt 32 (by omega) (by split <;> decide)
theorem cl_two (x : Nat) : cl (2 * x) = x := by
  unfold cl
  rw [if_neg (by omega)]
  simp
theorem cl_zero {x : Nat} (h : x < 2 ^ 32) (h0 : cl x = 0) : x = 0 := by
  unfold cl at h0
  by_cases hx : x % 2 = 1
  · rw [if_pos hx] at h0
    have h1 : x / 2 = 3988292384 := by
      have := congrArg (fun y => y ^^^ 3988292384) h0
      simpa [Nat.xor_assoc] using this
    omega
  · rw [if_neg hx, Nat.xor_zero] at h0
    omega
/-- So many steps. -/
def cls : Nat → Nat → Nat
  | 0, x => x
  | n + 1, x => cls n (cl x)
theorem cls_add (m n x : Nat) : cls (m + n) x = cls n (cls m x) := by
  induction m generalizing x with
  | zero => simp [cls]
  | succ m ih => rw [Nat.succ_add]; exact ih _
theorem cls_xor (n a b : Nat) : cls n (a ^^^ b) = cls n a ^^^ cls n b := by
  induction n generalizing a b with
  | zero => rfl
  | succ n ih => simp only [cls, cl_xor, ih]
theorem cls_lt {x : Nat} (n : Nat) (h : x < 2 ^ 32) : cls n x < 2 ^ 32 := by
  induction n generalizing x with
  | zero => exact h
  | succ n ih => exact ih (cl_lt h)
theorem cls_pow (k x : Nat) : cls k (2 ^ k * x) = x := by
  induction k generalizing x with
  | zero => simp [cls]
  | succ k ih =>
    simp only [cls]
    rw [Nat.pow_succ, Nat.mul_comm (2 ^ k) 2, Nat.mul_assoc, cl_two, ih]
theorem cls_zero {x : Nat} (n : Nat) (h : x < 2 ^ 32) (h0 : cls n x = 0) : x = 0 := by
  induction n generalizing x with
  | zero => exact h0
  | succ n ih => exact cl_zero h (ih (cl_lt h) h0)
theorem cls_inj {a b : Nat} (n : Nat) (ha : a < 2 ^ 32) (hb : b < 2 ^ 32) (h : cls n a = cls n b) : a = b := by
  have h1 : cls n (a ^^^ b) = 0 := by rw [cls_xor, h, Nat.xor_self]
  have h2 := cls_zero n (xor_lt 32 ha hb) h1
  have := congrArg (fun y => y ^^^ b) h2
  simpa [Nat.xor_assoc] using this

/-- Bytes, one behind the other. -/
def crcF (x : Nat) (l : List UInt8) : Nat := l.foldl (fun x c => cls 8 (x ^^^ c.toNat)) x
theorem crcF_append (x : Nat) (a b : List UInt8) : crcF x (a ++ b) = crcF (crcF x a) b := List.foldl_append
theorem crcF_snoc (x : Nat) (a : List UInt8) (c : UInt8) : crcF x (a ++ [c]) = cls 8 (crcF x a ^^^ c.toNat) := by rw [crcF_append]; rfl
theorem num_cons (c : UInt8) (l : List UInt8) : num (c :: l) = c.toNat ^^^ 2 ^ 8 * num l := by
  rw [← join_xor 8 _ _ c.toNat_lt]
  rfl
theorem crcF_num (x : Nat) (l : List UInt8) : crcF x l = cls (8 * l.length) (x ^^^ num l) := by
  induction l generalizing x with
  | nil => simp [crcF, num, cls]
  | cons c l ih =>
    have e : crcF x (c :: l) = crcF (cls 8 (x ^^^ c.toNat)) l := rfl
    rw [e, ih, num_cons, List.length_cons, Nat.mul_succ, Nat.add_comm (8 * l.length), cls_add, ← Nat.xor_assoc, cls_xor 8 (x ^^^ c.toNat), cls_pow]
theorem crcF_lt {x : Nat} (l : List UInt8) (h : x < 2 ^ 32) : crcF x l < 2 ^ 32 := by
  induction l generalizing x with
  | nil => exact h
  | cons c l ih => exact ih (cls_lt 8 (xor_lt 32 h (Nat.lt_trans c.toNat_lt (by decide))))

/-- The sum. -/
def crcSum (l : List UInt8) : Nat := crcF 4294967295 l ^^^ 4294967295
theorem crcSum_lt (l : List UInt8) : crcSum l < 4294967296 := xor_lt 32 (crcF_lt l (by decide)) (by decide)
theorem crcSum_back (l : List UInt8) : crcSum l ^^^ 4294967295 = crcF 4294967295 l := by unfold crcSum; rw [Nat.xor_assoc, Nat.xor_self, Nat.xor_zero]
theorem crcSum_nil : crcSum [] = 0 := by decide
theorem crcSum_append (a b : List UInt8) : crcSum (a ++ b) = crcF (crcSum a ^^^ 4294967295) b ^^^ 4294967295 := by rw [crcSum_back]; unfold crcSum; rw [crcF_append]

/-- Sealed bytes. -/
def sealed (l : List UInt8) : List UInt8 := l ++ le (crcSum l) 4
/-- Are they? -/
def crcOk (s : List UInt8) : Prop := num (s.drop (s.length - 4)) = crcSum (s.take (s.length - 4))
theorem crcOk_iff (s : List UInt8) (h : 4 ≤ s.length) : crcOk s ↔ cls (8 * s.length) (4294967295 ^^^ num s) = cls 32 4294967295 := by
  obtain ⟨a, t, rfl, ht⟩ : ∃ a t, s = a ++ t ∧ t.length = 4 := ⟨s.take (s.length - 4), s.drop (s.length - 4), (List.take_append_drop _ _).symm, by rw [List.length_drop]; omega⟩
  have e : (a ++ t).length - 4 = a.length := by rw [List.length_append]; omega
  have hn := num_lt t
  rw [ht] at hn
  have hn' : num t < 2 ^ 32 := by simpa using hn
  have hx : crcF 4294967295 a < 2 ^ 32 := crcF_lt a (by decide)
  unfold crcOk
  rw [e, List.drop_left, List.take_left, ← crcF_num, crcF_append, crcF_num _ t, ht]
  constructor
  · intro hs
    rw [hs, ← crcSum_back, Nat.xor_comm, ← Nat.xor_assoc, Nat.xor_self, Nat.zero_xor]
  · intro hs
    have h1 := cls_inj 32 (xor_lt 32 hx hn') (by decide) hs
    have := congrArg (fun y => crcF 4294967295 a ^^^ y) h1
    simp only [← Nat.xor_assoc, Nat.xor_self, Nat.zero_xor] at this
    exact this
theorem crcOk_sealed (l : List UInt8) : crcOk (sealed l) := by
  have e : (sealed l).length - 4 = l.length := by simp [sealed, le_length]
  unfold crcOk
  rw [e]
  unfold sealed
  rw [List.drop_left, List.take_left, num_le, Nat.mod_eq_of_lt (crcSum_lt l)]
/-- Bits within 32 in a row, turned, are told. -/
theorem crc_burst (s t : List UInt8) (bits k : Nat) (hs : 4 ≤ s.length) (hl : t.length = s.length) (hb : bits < 4294967296) (h0 : bits ≠ 0) (hk : k + 32 ≤ 8 * s.length) (hx : num t = num s ^^^ 2 ^ k * bits) (ok : crcOk s) : ¬ crcOk t := fun ok' => by
  have h1 := (crcOk_iff s hs).1 ok
  have h2 := (crcOk_iff t (by omega)).1 ok'
  rw [hl, hx, ← Nat.xor_assoc, cls_xor, h1] at h2
  have h3 : cls (8 * s.length) (2 ^ k * bits) = 0 := by
    have := congrArg (fun y => cls 32 4294967295 ^^^ y) h2
    simp only [← Nat.xor_assoc, Nat.xor_self, Nat.zero_xor] at this
    exact this
  rw [show 8 * s.length = k + (8 * s.length - k) by omega, cls_add, cls_pow] at h3
  exact h0 (cls_zero _ hb h3)
theorem crc_linear (a b c d : List UInt8) (hb : b.length = a.length) (hc : c.length = a.length) (hd : d.length = a.length) (hx : num d = num a ^^^ num b ^^^ num c) : crcSum d = crcSum a ^^^ crcSum b ^^^ crcSum c := by
  unfold crcSum
  rw [crcF_num, crcF_num, crcF_num, crcF_num, hb, hc, hd, hx]
  simp only [cls_xor]
  generalize cls (8 * a.length) 4294967295 = M
  generalize cls (8 * a.length) (num a) = A
  generalize cls (8 * a.length) (num b) = B
  generalize cls (8 * a.length) (num c) = C
  apply Nat.eq_of_testBit_eq
  intro j
  simp only [Nat.testBit_xor]
  cases M.testBit j <;> cases A.testBit j <;> cases B.testBit j <;> cases C.testBit j <;> cases Nat.testBit 4294967295 j <;> rfl

/-- One bit of one byte turned. -/
theorem num_turn : ∀ (l : List UInt8) (j t : Nat) (y : UInt8) (h : j < l.length), t < 8 → y.toNat = l[j].toNat ^^^ 2 ^ t → num (l.set j y) = num l ^^^ 2 ^ (8 * j + t)
  | [], j, _, _, h, _, _ => absurd h (Nat.not_lt_zero j)
  | c :: l, 0, t, y, _, ht, hy => by
    simp only [List.getElem_cons_zero] at hy
    rw [List.set_cons_zero, num_cons, num_cons, hy, Nat.mul_zero, Nat.zero_add, Nat.xor_assoc, Nat.xor_assoc, Nat.xor_comm (2 ^ t)]
  | c :: l, j + 1, t, y, h, ht, hy => by
    have h' : j < l.length := by simpa using h
    have hy' : y.toNat = l[j].toNat ^^^ 2 ^ t := by simpa using hy
    rw [List.set_cons_succ, num_cons, num_cons, num_turn l j t y h' ht hy', mul_xor, ← Nat.pow_add, Nat.xor_assoc, show 8 + (8 * j + t) = 8 * (j + 1) + t by omega]
/-- The bits turned so far. -/
theorem turned_one {bits i : Nat} (h : bits / 2 ^ i % 2 = 1) (k : Nat) : 2 ^ k * (bits % 2 ^ (i + 1)) = 2 ^ k * (bits % 2 ^ i) ^^^ 2 ^ (k + i) := by
  rw [Nat.mod_pow_succ, h, Nat.mul_one]
  have e : bits % 2 ^ i + 2 ^ i = bits % 2 ^ i ^^^ 2 ^ i := by
    have := join_xor i 1 (bits % 2 ^ i) (Nat.mod_lt _ (Nat.two_pow_pos i))
    simpa using this
  rw [e, mul_xor, ← Nat.pow_add]
theorem turned_no {bits i : Nat} (h : bits / 2 ^ i % 2 = 0) : bits % 2 ^ (i + 1) = bits % 2 ^ i := by
  rw [Nat.mod_pow_succ, h, Nat.mul_zero, Nat.add_zero]
/-- Bytes changed by bytes, one by one. -/
theorem num_zip : ∀ (a b c d : List UInt8), b.length = a.length → c.length = a.length → d.length = a.length → (∀ (i : Nat) x y z w, a[i]? = some x → b[i]? = some y → c[i]? = some z → d[i]? = some w → w.toNat = x.toNat ^^^ y.toNat ^^^ z.toNat) → num d = num a ^^^ num b ^^^ num c
  | [], [], [], [], _, _, _, _ => by simp [num]
  | x :: a, y :: b, z :: c, w :: d, hb, hc, hd, h => by
    have h0 := h 0 x y z w rfl rfl rfl rfl
    have ih := num_zip a b c d (by simpa using hb) (by simpa using hc) (by simpa using hd) fun i => h (i + 1)
    rw [num_cons, num_cons, num_cons, num_cons, h0, ih, mul_xor, mul_xor]
    apply Nat.eq_of_testBit_eq
    intro j
    simp only [Nat.testBit_xor]
    cases x.toNat.testBit j <;> cases y.toNat.testBit j <;> cases z.toNat.testBit j <;> cases (2 ^ 8 * num a).testBit j <;> cases (2 ^ 8 * num b).testBit j <;> cases (2 ^ 8 * num c).testBit j <;> rfl
  | [], _ :: _, _, _, h, _, _, _ => by simp at h
  | [], [], _ :: _, _, _, h, _, _ => by simp at h
  | [], [], [], _ :: _, _, _, h, _ => by simp at h
  | _ :: _, [], _, _, h, _, _, _ => by simp at h
  | _ :: _, _ :: _, [], _, _, h, _, _ => by simp at h
  | _ :: _, _ :: _, _ :: _, [], _, _, h, _ => by simp at h
end Go.Proofs.YtgedbeghegncoaaDoor
