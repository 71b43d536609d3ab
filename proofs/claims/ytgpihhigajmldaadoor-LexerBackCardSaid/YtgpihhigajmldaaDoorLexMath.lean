/- The tokens of a row of bytes, as plain math: what a text begins with, its token, its number, where it stands. No program. No condition. -/
import Derived.Lib.IndexMore
import Derived.Lib.IndexLaws
namespace Go.Proofs.YtgpihhigajmldaaDoor
open Go Go.Lib

/-! ### What a byte is -/
def lxGap (b : UInt8) : Bool := b == 32 || b == 9 || b == 13 || b == 10
def lxLet (b : UInt8) : Bool := decide (97 ≤ b.toNat ∧ b.toNat ≤ 122) || decide (65 ≤ b.toNat ∧ b.toNat ≤ 90) || b == 95
def lxFig (b : UInt8) : Bool := decide (48 ≤ b.toNat ∧ b.toNat ≤ 57)
def lxIn (b : UInt8) : Bool := lxLet b || lxFig b
def lxQuote (b : UInt8) : Bool := b == 34 || b == 39
def signs : List UInt8 := [123, 125, 91, 93, 60, 62, 40, 41, 59, 61, 44, 46, 45]
def lxSign (b : UInt8) : Bool := signs.contains b
def ldig (b : UInt8) : Nat :=
  if 48 ≤ b.toNat ∧ b.toNat ≤ 57 then b.toNat - 48 else if 97 ≤ b.toNat ∧ b.toNat ≤ 102 then b.toNat - 97 + 10
  else if 65 ≤ b.toNat ∧ b.toNat ≤ 70 then b.toNat - 65 + 10 else 16
theorem ldig_le (b : UInt8) : ldig b ≤ 16 := by
  unfold ldig
  split
  · omega
  · split
    · omega
    · split <;> omega

/-! ### How many bytes in a row -/
def lspan (p : UInt8 → Bool) : List UInt8 → Nat
  | [] => 0
  | b :: l => if p b then lspan p l + 1 else 0
theorem lspan_le (p : UInt8 → Bool) : ∀ l, lspan p l ≤ l.length
  | [] => Nat.le_refl _
  | b :: l => by
    have := lspan_le p l
    unfold lspan
    split <;> simp <;> omega
theorem lspan_eq {p : UInt8 → Bool} : ∀ {l : List UInt8} {i : Nat}, i ≤ l.length → (∀ j b, j < i → l[j]? = some b → p b = true) → (∀ b, l[i]? = some b → p b = false) → lspan p l = i
  | [], i, hi, _, _ => by
    have : i = 0 := by simpa using hi
    subst this; rfl
  | b :: l, 0, _, _, hs => by
    have := hs b (by simp)
    simp [lspan, this]
  | b :: l, i + 1, hi, hj, hs => by
    have h0 := hj 0 b (by omega) (by simp)
    have := lspan_eq (p := p) (l := l) (i := i) (by simpa using hi) (fun j c h hc => hj (j + 1) c (by omega) (by simpa using hc)) (fun c hc => hs c (by simpa using hc))
    simp [lspan, h0, this]
theorem lspan_all {p : UInt8 → Bool} : ∀ {l : List UInt8} {j : Nat} {b : UInt8}, j < lspan p l → l[j]? = some b → p b = true
  | [], j, b, h, _ => by simp [lspan] at h
  | c :: l, j, b, h, hb => by
    unfold lspan at h
    split at h
    · rename_i hc
      cases j with
      | zero => simp at hb; exact hb ▸ hc
      | succ j => exact lspan_all (l := l) (j := j) (by omega) (by simpa using hb)
    · omega
theorem lspan_stop {p : UInt8 → Bool} : ∀ {l : List UInt8} {b : UInt8}, l[lspan p l]? = some b → p b = false
  | [], b, h => by simp at h
  | c :: l, b, h => by
    unfold lspan at h
    split at h
    · exact lspan_stop (l := l) (by simpa using h)
    · rename_i hc
      simp at h
      subst h
      simpa using hc
theorem lspan_pos {p : UInt8 → Bool} {b : UInt8} {l : List UInt8} (h : p b = true) : lspan p (b :: l) = lspan p l + 1 := by simp [lspan, h]
theorem lspan_append {p : UInt8 → Bool} {l m : List UInt8} (h : ∀ b ∈ l, p b = true) (hm : ∀ b, m.head? = some b → p b = false) : lspan p (l ++ m) = l.length := by
  refine lspan_eq (by simp) (fun j b hj hb => ?_) (fun b hb => ?_)
  · rw [List.getElem?_append_left hj] at hb
    exact h b (List.mem_of_getElem? hb)
  · rw [List.getElem?_append_right (Nat.le_refl _), Nat.sub_self] at hb
    exact hm b (by rw [List.head?_eq_getElem?]; exact hb)

/-! ### Numbers -/
def lval (base : Nat) (ds : List UInt8) : Nat := ds.foldl (fun n b => n * base + ldig b) 0
def lnb (base : Nat) (ds : List UInt8) : Nat × Nat :=
  if ds = [] ∨ (ds.all fun b => decide (ldig b < base)) = false then (0, 9) else if 2147483647 < lval base ds then (0, 1) else (lval base ds, 0)
def lnum (l : List UInt8) : Nat × Nat :=
  if l.take 2 = [48, 120] ∨ l.take 2 = [48, 88] then lnb 16 (l.drop 2) else if l.head? = some 48 then lnb 8 l else lnb 10 l

/-! ### What a text begins with -/
/-- how many bytes there are of what begins with k bytes, up to the next end behind them; the error -/
def lclosed (k : Nat) (e l : List UInt8) : Nat × Nat := if index (l.drop k) e < 0 then (0, 9) else (k + (index (l.drop k) e).toNat + e.length, 0)
def noLF (b : UInt8) : Bool := b != 10
/-- its kind, its size, the error -/
def lcut (l : List UInt8) : Nat × Nat × Nat :=
  if lxGap (l.headD 0) then (0, lspan lxGap l, 0)
  else if l.take 2 = [47, 47] then (0, lspan noLF l, 0)
  else if l.take 2 = [47, 42] then (0, lclosed 2 [42, 47] l)
  else if lxLet (l.headD 0) then (1, lspan lxIn l, 0)
  else if lxFig (l.headD 0) then (2, lspan lxIn l, 0)
  else if lxQuote (l.headD 0) then (3, lclosed 1 [l.headD 0] l)
  else if lxSign (l.headD 0) then (4, 1, 0)
  else (0, 0, 9)
/-- a token: its kind, its text, its number, where it begins -/
structure Tok where
  k : Nat
  t : List UInt8
  n : Nat
deriving DecidableEq
/-- the token of a kind that has these bytes, and the error -/
def ltoken (k : Nat) (p : List UInt8) : Tok × Nat :=
  if k = 0 then (⟨0, [], 0⟩, 0)
  else if k = 1 then (if 40 < p.length then (⟨0, [], 0⟩, 3) else (⟨1, p, 0⟩, 0))
  else if k = 2 then (if (lnum p).2 = 0 then (⟨2, p, (lnum p).1⟩, 0) else (⟨0, [], 0⟩, (lnum p).2))
  else if k = 3 then (if (92 : UInt8) ∈ (p.drop 1).take (p.length - 2) ∨ (10 : UInt8) ∈ (p.drop 1).take (p.length - 2) then (⟨0, [], 0⟩, 9) else (⟨3, (p.drop 1).take (p.length - 2), 0⟩, 0))
  else (⟨k, p, 0⟩, 0)
/-- the token, its size, the error -/
def lfirst (l : List UInt8) : Tok × Nat × Nat :=
  if (lcut l).2.2 ≠ 0 then (⟨0, [], 0⟩, 0, (lcut l).2.2)
  else if (ltoken (lcut l).1 (l.take (lcut l).2.1)).2 ≠ 0 then (⟨0, [], 0⟩, 0, (ltoken (lcut l).1 (l.take (lcut l).2.1)).2)
  else ((ltoken (lcut l).1 (l.take (lcut l).2.1)).1, (lcut l).2.1, 0)

theorem lclosed_size {k : Nat} {e l : List UInt8} (hk : k ≤ l.length) (h : (lclosed k e l).2 = 0) : k + e.length ≤ (lclosed k e l).1 ∧ (lclosed k e l).1 ≤ l.length := by
  unfold lclosed at h ⊢
  split
  · rename_i h0; rw [if_pos h0] at h; cases h
  · rename_i h0
    have := index_room (l.drop k) e (by omega)
    rw [List.length_drop] at this
    simp only
    omega
theorem lspan_first {p : UInt8 → Bool} {l : List UInt8} (h0 : 0 < l.length) (h : p (l.headD 0) = true) : 0 < lspan p l := by
  cases l with
  | nil => simp at h0
  | cons b l => rw [lspan_pos (by simpa using h)]; omega
theorem lcut_size {l : List UInt8} (h0 : 0 < l.length) (h : (lcut l).2.2 = 0) : 0 < (lcut l).2.1 ∧ (lcut l).2.1 ≤ l.length := by
  unfold lcut at h ⊢
  split
  · rename_i h1
    exact ⟨lspan_first h0 h1, lspan_le _ _⟩
  rename_i h1
  rw [if_neg h1] at h
  split
  · rename_i h2
    refine ⟨?_, lspan_le _ _⟩
    refine lspan_first h0 ?_
    match l, h2 with
    | b :: c :: l, h2 => simp at h2; simp [h2.1, noLF]
    | [b], h2 => simp at h2
  rename_i h2
  rw [if_neg h2] at h
  split
  · rename_i h3
    rw [if_pos h3] at h
    have hk : 2 ≤ l.length := by
      have := congrArg List.length h3
      rw [List.length_take] at this
      simp at this
      omega
    have := lclosed_size (k := 2) hk h
    simp only at this ⊢
    omega
  rename_i h3
  rw [if_neg h3] at h
  split
  · rename_i h4
    exact ⟨lspan_first h0 (by simp only [lxIn, h4, Bool.true_or]), lspan_le _ _⟩
  rename_i h4
  rw [if_neg h4] at h
  split
  · rename_i h5
    exact ⟨lspan_first h0 (by simp only [lxIn, h5, Bool.or_true]), lspan_le _ _⟩
  rename_i h5
  rw [if_neg h5] at h
  split
  · rename_i h6
    rw [if_pos h6] at h
    have := lclosed_size (k := 1) (by omega) h
    simp only at this ⊢
    omega
  rename_i h6
  rw [if_neg h6] at h
  split
  · exact ⟨by simp, h0⟩
  · rename_i h7
    rw [if_neg h7] at h
    simp at h
theorem lfirst_size {l : List UInt8} (h0 : 0 < l.length) (h : (lfirst l).2.2 = 0) : 0 < (lfirst l).2.1 ∧ (lfirst l).2.1 ≤ l.length ∧ (lcut l).2.2 = 0 ∧ (lfirst l).2.1 = (lcut l).2.1 ∧ (ltoken (lcut l).1 (l.take (lcut l).2.1)).2 = 0 ∧ (lfirst l).1 = (ltoken (lcut l).1 (l.take (lcut l).2.1)).1 := by
  unfold lfirst at h ⊢
  split
  · rename_i h1; rw [if_pos h1] at h; exact absurd h h1
  rename_i h1
  rw [if_neg h1] at h
  split
  · rename_i h2; rw [if_pos h2] at h; exact absurd h h2
  rename_i h2
  have := lcut_size h0 (by simpa using h1)
  exact ⟨this.1, this.2, by simpa using h1, rfl, by simpa using h2, rfl⟩

/-! ### Places -/
def lplace (p : Nat × Nat) (l : List UInt8) : Nat × Nat := l.foldl (fun p b => if b = 10 then (p.1 + 1, 1) else (p.1, p.2 + 1)) p
theorem lplace_append (p : Nat × Nat) (l m : List UInt8) : lplace p (l ++ m) = lplace (lplace p l) m := by simp [lplace]
theorem lplace_snoc (p : Nat × Nat) (l : List UInt8) (b : UInt8) : lplace p (l ++ [b]) = if b = 10 then ((lplace p l).1 + 1, 1) else ((lplace p l).1, (lplace p l).2 + 1) := by
  rw [lplace_append]; simp [lplace]
theorem lplace_le : ∀ (l : List UInt8) (p : Nat × Nat), (lplace p l).1 ≤ p.1 + l.length ∧ (lplace p l).2 ≤ p.2 + 1 + l.length
  | [], p => by simp only [lplace, List.foldl_nil, List.length_nil]; omega
  | b :: l, p => by
    have e : lplace p (b :: l) = lplace (if b = 10 then (p.1 + 1, 1) else (p.1, p.2 + 1)) l := rfl
    rw [e]
    split
    · have := lplace_le l (p.1 + 1, 1)
      simp only [List.length_cons] at this ⊢
      omega
    · have := lplace_le l (p.1, p.2 + 1)
      simp only [List.length_cons] at this ⊢
      omega
def placeAt (l : List UInt8) (at' : Nat) : Nat × Nat := lplace (1, 1) (l.take at')
theorem placeAt_zero (l : List UInt8) : placeAt l 0 = (1, 1) := by simp [placeAt, lplace]
theorem placeAt_more (l : List UInt8) (i n : Nat) : placeAt l (i + n) = lplace (placeAt l i) ((l.drop i).take n) := by
  unfold placeAt
  rw [← lplace_append, List.take_add]
theorem placeAt_le (l : List UInt8) (i : Nat) : (placeAt l i).1 ≤ 1 + l.length ∧ (placeAt l i).2 ≤ 2 + l.length := by
  have := lplace_le (l.take i) (1, 1)
  have h : (l.take i).length ≤ l.length := by rw [List.length_take]; omega
  unfold placeAt
  simp only at this ⊢
  omega

/-! ### All tokens -/
/-- From a place on the text's tokens are these (with where each begins); the error, and where -/
inductive Lex (l : List UInt8) : Nat → List (Tok × Nat) → Nat → Nat → Prop
  | done {i : Nat} : i = l.length → Lex l i [] 0 0
  | bad {i : Nat} : i < l.length → (lfirst (l.drop i)).2.2 ≠ 0 → Lex l i [] (lfirst (l.drop i)).2.2 i
  | gap {i : Nat} {ts e ea} : i < l.length → (lfirst (l.drop i)).2.2 = 0 → (lcut (l.drop i)).1 = 0 → Lex l (i + (lfirst (l.drop i)).2.1) ts e ea → Lex l i ts e ea
  | tok {i : Nat} {ts e ea} : i < l.length → (lfirst (l.drop i)).2.2 = 0 → (lcut (l.drop i)).1 ≠ 0 → Lex l (i + (lfirst (l.drop i)).2.1) ts e ea → Lex l i (((lfirst (l.drop i)).1, i) :: ts) e ea

theorem lex_total (l : List UInt8) : ∀ (n i : Nat), i + n = l.length → ∃ ts e ea, Lex l i ts e ea := by
  intro n
  induction n using Nat.strongRecOn with
  | ind n ih =>
    intro i hi
    by_cases h0 : i = l.length
    · exact ⟨_, _, _, .done h0⟩
    have hlt : i < l.length := by omega
    by_cases hb : (lfirst (l.drop i)).2.2 = 0
    · have hs := lfirst_size (l := l.drop i) (by rw [List.length_drop]; omega) hb
      rw [List.length_drop] at hs
      obtain ⟨ts, e, ea, hL⟩ := ih (n - (lfirst (l.drop i)).2.1) (by omega) (i + (lfirst (l.drop i)).2.1) (by omega)
      by_cases hk : (lcut (l.drop i)).1 = 0
      · exact ⟨_, _, _, .gap hlt hb hk hL⟩
      · exact ⟨_, _, _, .tok hlt hb hk hL⟩
    · exact ⟨_, _, _, .bad hlt hb⟩
theorem lnum_err (l : List UInt8) : (lnum l).2 ≤ 9 := by
  have h : ∀ b m, (lnb b m).2 ≤ 9 := fun b m => by
    unfold lnb
    split
    · simp
    · split <;> simp
  unfold lnum
  split
  · exact h _ _
  · split <;> exact h _ _
theorem lclosed_err (k : Nat) (e l : List UInt8) : (lclosed k e l).2 ≤ 9 := by unfold lclosed; split <;> simp
theorem lcut_err (l : List UInt8) : (lcut l).2.2 ≤ 9 := by
  unfold lcut
  split
  · simp
  split
  · simp
  split
  · exact lclosed_err _ _ _
  split
  · simp
  split
  · simp
  split
  · exact lclosed_err _ _ _
  split <;> simp
theorem ltoken_err (k : Nat) (p : List UInt8) : (ltoken k p).2 ≤ 9 := by
  have := lnum_err p
  unfold ltoken
  split
  · simp
  split
  · split <;> simp
  split
  · split
    · simp
    · simpa using this
  split
  · split <;> simp
  · simp
theorem lfirst_err (l : List UInt8) : (lfirst l).2.2 ≤ 9 := by
  have h1 := lcut_err l
  have h2 := ltoken_err (lcut l).1 (l.take (lcut l).2.1)
  unfold lfirst
  split
  · exact h1
  split
  · exact h2
  · simp
theorem Lex.err {l : List UInt8} {i : Nat} {ts e ea} (h : Lex l i ts e ea) : e ≤ 9 ∧ ts.length + i ≤ l.length ∧ (e ≠ 0 → ea < l.length) := by
  induction h with
  | done h => exact ⟨by omega, by simp; omega, fun h => absurd rfl h⟩
  | bad h1 h2 => exact ⟨lfirst_err _, by simp; omega, fun _ => h1⟩
  | gap h1 h2 h3 _ ih =>
    have := lfirst_size (by rw [List.length_drop]; omega) h2
    exact ⟨ih.1, by omega, ih.2.2⟩
  | tok h1 h2 h3 _ ih =>
    have := lfirst_size (by rw [List.length_drop]; omega) h2
    exact ⟨ih.1, by rw [List.length_cons]; omega, ih.2.2⟩
end Go.Proofs.YtgpihhigajmldaaDoor
