/- Layer 10's plain mathematics: the table of the kinds, what bits say (kfit), a number's bits (kback), which numbers are right, and that all three fit each other. No condition. -/
import Derived.Test.YtnokjainniihkaaDoorProg
import Derived.Test.YtnokjainniihkaaDoorZig
import Derived.Test.YtnokjainniihkaaDoorStrs
namespace Go.Proofs.YtnokjainniihkaaDoor
open Go.RowKit

/-- The kinds' names, from 0 (none) on. -/
def knames : List (List UInt8) := [[], [100, 111, 117, 98, 108, 101], [102, 108, 111, 97, 116], [105, 110, 116, 51, 50], [105, 110, 116, 54, 52], [117, 105, 110, 116, 51, 50], [117, 105, 110, 116, 54, 52], [115, 105, 110, 116, 51, 50], [115, 105, 110, 116, 54, 52], [102, 105, 120, 101, 100, 51, 50], [102, 105, 120, 101, 100, 54, 52], [115, 102, 105, 120, 101, 100, 51, 50], [115, 102, 105, 120, 101, 100, 54, 52], [98, 111, 111, 108], [115, 116, 114, 105, 110, 103], [98, 121, 116, 101, 115], [101, 110, 117, 109], [109, 101, 115, 115, 97, 103, 101]]
def kname (i : Nat) : List UInt8 := knames.getD i []
def kwires : List Int := [-1, 1, 5, 0, 0, 0, 0, 0, 0, 5, 1, 5, 1, 0, 2, 2, 0, 2]
def kwire (i : Nat) : Int := kwires.getD i (-1)
def knumB (i : Nat) : Bool := decide ((1 ≤ i ∧ i ≤ 13) ∨ i = 16)
def kkeyB (i : Nat) : Bool := decide (3 ≤ i ∧ i ≤ 14)
/-- A number's kind: 0 of none. -/
def kn (z : Int) : Nat := if 1 ≤ z ∧ z ≤ 17 then z.toNat else 0
theorem kn_at (i : Nat) (h1 : 1 ≤ i) (h2 : i ≤ 17) : kn (i : Int) = i := by unfold kn; rw [if_pos (by omega)]; omega
theorem kn_low (z : Int) (h : z < 1) : kn z = 0 := by unfold kn; rw [if_neg (by omega)]
theorem kn_high (z : Int) (h : 17 < z) : kn z = 0 := by unfold kn; rw [if_neg (by omega)]

/-- Every number is a kind's, or lies ahead or behind. -/
theorem kcases {P : Int → Prop} (low : ∀ z, z < 1 → P z) (high : ∀ z, 17 < z → P z) (h1 : P 1) (h2 : P 2) (h3 : P 3) (h4 : P 4) (h5 : P 5) (h6 : P 6) (h7 : P 7) (h8 : P 8) (h9 : P 9) (h10 : P 10) (h11 : P 11) (h12 : P 12) (h13 : P 13) (h14 : P 14) (h15 : P 15) (h16 : P 16) (h17 : P 17) (z : Int) : P z := by
  by_cases ha : z < 1
  · exact low z ha
  by_cases hb : 17 < z
  · exact high z hb
  obtain ⟨i, rfl⟩ : ∃ i : Nat, z = (i : Int) := ⟨z.toNat, by omega⟩
  have hi : i ≤ 17 := by omega
  match i, hi with
  | 0, _ => exact absurd ha (by decide)
  | 1, _ => exact h1
  | 2, _ => exact h2
  | 3, _ => exact h3
  | 4, _ => exact h4
  | 5, _ => exact h5
  | 6, _ => exact h6
  | 7, _ => exact h7
  | 8, _ => exact h8
  | 9, _ => exact h9
  | 10, _ => exact h10
  | 11, _ => exact h11
  | 12, _ => exact h12
  | 13, _ => exact h13
  | 14, _ => exact h14
  | 15, _ => exact h15
  | 16, _ => exact h16
  | 17, _ => exact h17
  | n + 18, h => omega

/-- The kind of a name, among those below k. -/
def kfind (l : List UInt8) : Nat → Nat
  | 0 => 0
  | 1 => 0
  | k + 2 => if kname (k + 1) = l then k + 1 else kfind l (k + 1)
theorem kfind_step (l : List UInt8) (k : Nat) (h : 1 ≤ k) : kfind l (k + 1) = if kname k = l then k else kfind l k := by
  obtain ⟨j, rfl⟩ : ∃ j, k = j + 1 := ⟨k - 1, by omega⟩
  rfl
theorem kname_apart : ∀ i : Fin 18, ∀ j : Fin 18, i.val < j.val → kname i.val ≠ kname j.val := by decide +kernel
theorem kfind_none (l : List UInt8) : ∀ k, (∀ j, 1 ≤ j → j < k → kname j ≠ l) → kfind l k = 0
  | 0, _ => rfl
  | 1, _ => rfl
  | k + 2, h => by
    rw [kfind_step l (k + 1) (by omega), if_neg (h (k + 1) (by omega) (by omega)), kfind_none l (k + 1) fun j h1 h2 => h j h1 (by omega)]
theorem kfind_is (l : List UInt8) (i : Nat) (h1 : 1 ≤ i) (he : kname i = l) : ∀ k, i < k → k ≤ 18 → kfind l k = i
  | 0, h, _ => absurd h (by omega)
  | 1, h, _ => absurd h (by omega)
  | k + 2, h, hk => by
    rw [kfind_step l (k + 1) (by omega)]
    by_cases e : i = k + 1
    · rw [if_pos (e ▸ he), e]
    · rw [if_neg, kfind_is l i h1 he (k + 1) (by omega) (by omega)]
      rw [← he]
      exact (kname_apart ⟨i, by omega⟩ ⟨k + 1, by omega⟩ (by show i < k + 1; omega)).symm
theorem kfind_le (l : List UInt8) : ∀ k, kfind l k ≤ k
  | 0 => Nat.le_refl _
  | 1 => Nat.zero_le _
  | k + 2 => by
    rw [kfind_step l (k + 1) (by omega)]
    have := kfind_le l (k + 1)
    split <;> omega

/-- 32 bits with a sign, as 64. -/
def ksgn (n : Nat) : Nat := if 2147483648 ≤ n % 4294967296 then n % 4294967296 + 18446744069414584320 else n % 4294967296
/-- All bits zigzagged back, as 64. -/
def kzag (n : Nat) : Nat := if n % 2 = 0 then n / 2 else 18446744073709551615 - n / 2
/-- A number zigzagged. -/
def kzig (n : Nat) : Nat := if n < 9223372036854775808 then n * 2 else (18446744073709551615 - n) * 2 + 1
/-- What bits say. -/
def kfit (i n : Nat) : Nat :=
  if i = 3 ∨ i = 11 ∨ i = 16 then ksgn n else if i = 2 ∨ i = 5 ∨ i = 9 then n % 4294967296 else if i = 7 then kzag (n % 4294967296) else if i = 8 then kzag n else if i = 13 then (if n = 0 then 0 else 1)
  else if knumB i = true then n else 0
/-- A number's bits. -/
def kback (i n : Nat) : Nat :=
  if knumB i = false then 0 else if i = 7 ∨ i = 8 then kzig n else if i = 11 then n % 4294967296 else n
/-- Is a number one of a kind? -/
def krightB (i n : Nat) : Bool :=
  if i = 3 ∨ i = 7 ∨ i = 11 ∨ i = 16 then decide (ksgn n = n) else if i = 2 ∨ i = 5 ∨ i = 9 then decide (n < 4294967296) else if i = 13 then decide (n < 2) else knumB i

theorem ksgn_lt (n : Nat) : ksgn n < 18446744073709551616 := by unfold ksgn; split <;> omega
theorem kzag_lt (n : Nat) (h : n < 18446744073709551616) : kzag n < 18446744073709551616 := by unfold kzag; split <;> omega
theorem kzig_lt (n : Nat) (h : n < 18446744073709551616) : kzig n < 18446744073709551616 := by unfold kzig; split <;> omega
theorem kfit_lt (i n : Nat) (h : n < 18446744073709551616) : kfit i n < 18446744073709551616 := by
  have h1 := ksgn_lt n
  have h2 := kzag_lt n h
  have h3 := kzag_lt (n % 4294967296) (by omega)
  unfold kfit
  repeat' split
  all_goals omega
theorem kback_lt (i n : Nat) (h : n < 18446744073709551616) : kback i n < 18446744073709551616 := by
  have h1 := kzig_lt n h
  unfold kback
  repeat' split
  all_goals omega

/-- A number's kind, by classes of what is done with bits. -/
theorem kclass {P : Nat → Prop} (i : Nat) (hn : knumB i = true) (h3 : i = 3 ∨ i = 16 → P i) (h11 : P 11) (h2 : i = 2 ∨ i = 5 ∨ i = 9 → P i) (h7 : P 7) (h8 : P 8) (h13 : P 13) (hs : i = 1 ∨ i = 4 ∨ i = 6 ∨ i = 10 ∨ i = 12 → P i) : P i := by
  have hn' : (1 ≤ i ∧ i ≤ 13) ∨ i = 16 := by simpa [knumB] using hn
  by_cases a : i = 3 ∨ i = 16
  · exact h3 a
  by_cases b : i = 2 ∨ i = 5 ∨ i = 9
  · exact h2 b
  by_cases c : i = 11
  · subst c; exact h11
  by_cases d : i = 7
  · subst d; exact h7
  by_cases e : i = 8
  · subst e; exact h8
  by_cases f : i = 13
  · subst f; exact h13
  exact hs (by omega)
theorem kfit3 (i n : Nat) (h : i = 3 ∨ i = 16) : kfit i n = ksgn n ∧ kback i n = n ∧ krightB i n = decide (ksgn n = n) := by rcases h with rfl | rfl <;> exact ⟨rfl, rfl, rfl⟩
theorem kfit2 (i n : Nat) (h : i = 2 ∨ i = 5 ∨ i = 9) : kfit i n = n % 4294967296 ∧ kback i n = n ∧ krightB i n = decide (n < 4294967296) := by rcases h with rfl | rfl | rfl <;> exact ⟨rfl, rfl, rfl⟩
theorem kfit1 (i n : Nat) (h : i = 1 ∨ i = 4 ∨ i = 6 ∨ i = 10 ∨ i = 12) : kfit i n = n ∧ kback i n = n ∧ krightB i n = true := by rcases h with rfl | rfl | rfl | rfl | rfl <;> exact ⟨rfl, rfl, rfl⟩
theorem kfit11 (n : Nat) : kfit 11 n = ksgn n ∧ kback 11 n = n % 4294967296 ∧ krightB 11 n = decide (ksgn n = n) := ⟨rfl, rfl, rfl⟩
theorem kfit7 (n : Nat) : kfit 7 n = kzag (n % 4294967296) ∧ kback 7 n = kzig n ∧ krightB 7 n = decide (ksgn n = n) := ⟨rfl, rfl, rfl⟩
theorem kfit8 (n : Nat) : kfit 8 n = kzag n ∧ kback 8 n = kzig n ∧ krightB 8 n = true := ⟨rfl, rfl, rfl⟩
theorem kfit13 (n : Nat) : kfit 13 n = (if n = 0 then 0 else 1) ∧ kback 13 n = n ∧ krightB 13 n = decide (n < 2) := ⟨rfl, rfl, rfl⟩

/-- A number is right just if its bits say it. -/
theorem kright_iff (i n : Nat) (hn : knumB i = true) (h : n < 18446744073709551616) : krightB i n = decide (kfit i (kback i n) = n) := by
  have e : krightB i n = true ↔ kfit i (kback i n) = n := by
    refine kclass (P := fun i => krightB i n = true ↔ kfit i (kback i n) = n) i hn (fun hi => ?_) ?_ (fun hi => ?_) ?_ ?_ ?_ (fun hi => ?_)
    · rw [(kfit3 i n hi).2.1, (kfit3 i n hi).2.2, (kfit3 i _ hi).1, decide_eq_true_iff]
    · rw [(kfit11 n).2.1, (kfit11 n).2.2, (kfit11 _).1, decide_eq_true_iff]
      unfold ksgn
      repeat' split
      all_goals omega
    · rw [(kfit2 i n hi).2.1, (kfit2 i n hi).2.2, (kfit2 i _ hi).1, decide_eq_true_iff]
      omega
    · rw [(kfit7 n).2.1, (kfit7 n).2.2, (kfit7 _).1, decide_eq_true_iff]
      unfold ksgn kzag kzig
      repeat' split
      all_goals omega
    · rw [(kfit8 n).2.1, (kfit8 n).2.2, (kfit8 _).1]
      unfold kzag kzig
      simp only [true_iff]
      repeat' split
      all_goals omega
    · rw [(kfit13 n).2.1, (kfit13 n).2.2, (kfit13 _).1, decide_eq_true_iff]
      split <;> omega
    · rw [(kfit1 i n hi).2.1, (kfit1 i n hi).2.2, (kfit1 i _ hi).1]
      simp
  rw [Bool.eq_iff_iff, e, decide_eq_true_iff]
/-- What bits say is right. -/
theorem kright_fit (i n : Nat) (hn : knumB i = true) : krightB i (kfit i n) = true := by
  refine kclass (P := fun i => krightB i (kfit i n) = true) i hn (fun hi => ?_) ?_ (fun hi => ?_) ?_ ?_ ?_ (fun hi => ?_)
  · rw [(kfit3 i n hi).1, (kfit3 i _ hi).2.2, decide_eq_true_iff]
    unfold ksgn
    repeat' split
    all_goals omega
  · rw [(kfit11 n).1, (kfit11 _).2.2, decide_eq_true_iff]
    unfold ksgn
    repeat' split
    all_goals omega
  · rw [(kfit2 i n hi).1, (kfit2 i _ hi).2.2, decide_eq_true_iff]
    omega
  · rw [(kfit7 n).1, (kfit7 _).2.2, decide_eq_true_iff]
    unfold ksgn kzag
    repeat' split
    all_goals omega
  · rfl
  · rw [(kfit13 n).1, (kfit13 _).2.2, decide_eq_true_iff]
    split <;> omega
  · rw [(kfit1 i _ hi).2.2]
theorem kfit_back (i n : Nat) (hn : knumB i = true) (h : n < 18446744073709551616) (hr : krightB i n = true) : kfit i (kback i n) = n := by
  rw [kright_iff i n hn h, decide_eq_true_iff] at hr
  exact hr
theorem kback_32 (i n : Nat) (hn : knumB i = true) (hw : kwire i = 5) (hr : krightB i n = true) : kback i n < 4294967296 := by
  revert hw hr
  refine kclass (P := fun i => kwire i = 5 → krightB i n = true → kback i n < 4294967296) i hn (fun hi => ?_) ?_ (fun hi => ?_) ?_ ?_ ?_ (fun hi => ?_)
  · intro hw
    rcases hi with rfl | rfl <;> exact absurd hw (by decide)
  · intro _ _
    rw [(kfit11 n).2.1]
    omega
  · intro _ hr
    rw [(kfit2 i n hi).2.2, decide_eq_true_iff] at hr
    rw [(kfit2 i n hi).2.1]
    omega
  · intro hw; exact absurd hw (by decide)
  · intro hw; exact absurd hw (by decide)
  · intro hw; exact absurd hw (by decide)
  · intro hw
    rcases hi with rfl | rfl | rfl | rfl | rfl <;> exact absurd hw (by decide)
theorem kright_num (i n : Nat) (h : knumB i = false) : krightB i n = false ∧ kfit i n = 0 ∧ kback i n = 0 := by
  have hn : ¬ ((1 ≤ i ∧ i ≤ 13) ∨ i = 16) := by simpa [knumB] using h
  refine ⟨?_, ?_, ?_⟩
  · unfold krightB
    rw [if_neg (by omega), if_neg (by omega), if_neg (by omega), h]
  · unfold kfit
    rw [if_neg (by omega), if_neg (by omega), if_neg (by omega), if_neg (by omega), if_neg (by omega), h]
    rfl
  · unfold kback
    rw [if_pos h]
end Go.Proofs.YtnokjainniihkaaDoor
