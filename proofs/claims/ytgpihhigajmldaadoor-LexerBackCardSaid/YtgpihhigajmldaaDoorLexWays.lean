/- What a text begins with that begins with no gap, by its first byte. No program. No condition. -/
import Derived.Test.YtgpihhigajmldaaDoorLexSkip
namespace Go.Proofs.YtgpihhigajmldaaDoor
open Go.RowKit

theorem noGap_cut {x : UInt8} {r : List UInt8} (h : NoGap (x :: r)) : lcut (x :: r) = (if lxLet x then (1, lspan lxIn (x :: r), 0) else if lxFig x then (2, lspan lxIn (x :: r), 0) else if lxQuote x then (3, lclosed 1 [x] (x :: r)) else if lxSign x then (4, 1, 0) else (0, 0, 9)) := by
  unfold lcut
  rw [if_neg (by rw [h.1]; simp), if_neg h.2.1, if_neg h.2.2]
  rfl
theorem lfirst_word {x : UInt8} {r : List UInt8} (h : NoGap (x :: r)) (hl : lxLet x = true) : lfirst (x :: r) = if 40 < lspan lxIn (x :: r) then (⟨0, [], 0⟩, 0, 3) else (⟨1, (x :: r).take (lspan lxIn (x :: r)), 0⟩, lspan lxIn (x :: r), 0) := by
  have hle := lspan_le lxIn (x :: r)
  have e0 : lcut (x :: r) = (1, lspan lxIn (x :: r), 0) := by rw [noGap_cut h, if_pos hl]
  unfold lfirst
  rw [e0]
  have e : ((x :: r).take (lspan lxIn (x :: r))).length = lspan lxIn (x :: r) := by rw [List.length_take]; omega
  simp only [ltoken, e]
  by_cases h40 : 40 < lspan lxIn (x :: r)
  · simp [h40]
  · simp [h40]
theorem lfirst_fig {x : UInt8} {r : List UInt8} (h : NoGap (x :: r)) (hl : lxLet x = false) (hf : lxFig x = true) : lfirst (x :: r) = if (lnum ((x :: r).take (lspan lxIn (x :: r)))).2 = 0 then (⟨2, (x :: r).take (lspan lxIn (x :: r)), (lnum ((x :: r).take (lspan lxIn (x :: r)))).1⟩, lspan lxIn (x :: r), 0) else (⟨0, [], 0⟩, 0, (lnum ((x :: r).take (lspan lxIn (x :: r)))).2) := by
  have e0 : lcut (x :: r) = (2, lspan lxIn (x :: r), 0) := by rw [noGap_cut h, if_neg (by rw [hl]; simp), if_pos hf]
  unfold lfirst
  rw [e0]
  generalize (x :: r).take (lspan lxIn (x :: r)) = p
  simp only [ltoken]
  by_cases h0 : (lnum p).2 = 0
  · simp [h0]
  · simp [h0]
theorem lfirst_open {x : UInt8} {r : List UInt8} (h : NoGap (x :: r)) (hl : lxLet x = false) (hf : lxFig x = false) (hq : lxQuote x = true) (hi : Lib.index r [x] < 0) : (lfirst (x :: r)).2.2 = 9 := by
  have e0 : lcut (x :: r) = (3, lclosed 1 [x] (x :: r)) := by rw [noGap_cut h, if_neg (by rw [hl]; simp), if_neg (by rw [hf]; simp), if_pos hq]
  unfold lfirst
  rw [e0]
  have e : lclosed 1 [x] (x :: r) = (0, 9) := by
    unfold lclosed
    rw [show (x :: r).drop 1 = r from rfl, if_pos hi]
  rw [e]
  simp
theorem lfirst_quote {x : UInt8} {r : List UInt8} (h : NoGap (x :: r)) (hl : lxLet x = false) (hf : lxFig x = false) (hq : lxQuote x = true) (i : Nat) (hi : Lib.index r [x] = (i : Int)) (hir : i < r.length) :
    lfirst (x :: r) = if (92 : UInt8) ∈ r.take i ∨ (10 : UInt8) ∈ r.take i then (⟨0, [], 0⟩, 0, 9) else (⟨3, r.take i, 0⟩, i + 2, 0) := by
  have e0 : lcut (x :: r) = (3, lclosed 1 [x] (x :: r)) := by rw [noGap_cut h, if_neg (by rw [hl]; simp), if_neg (by rw [hf]; simp), if_pos hq]
  unfold lfirst
  rw [e0]
  have e : lclosed 1 [x] (x :: r) = (i + 2, 0) := by
    unfold lclosed
    rw [show (x :: r).drop 1 = r from rfl, hi, if_neg (by omega), Int.toNat_natCast]
    simp only [List.length_cons, List.length_nil]
    congr 1
    omega
  rw [e]
  have e2 : (((x :: r).take (i + 2)).drop 1).take (((x :: r).take (i + 2)).length - 2) = r.take i := by
    rw [List.take_succ_cons, List.drop_succ_cons, List.drop_zero, List.length_cons, List.length_take, List.take_take]
    congr 1
    omega
  simp only [ltoken, e2]
  by_cases h0 : (92 : UInt8) ∈ r.take i ∨ (10 : UInt8) ∈ r.take i
  · simp [h0]
  · simp [h0]
theorem lfirst_sign {x : UInt8} {r : List UInt8} (h : NoGap (x :: r)) (hl : lxLet x = false) (hf : lxFig x = false) (hq : lxQuote x = false) (hs : lxSign x = true) : lfirst (x :: r) = (⟨4, [x], 0⟩, 1, 0) := by
  have e0 : lcut (x :: r) = (4, 1, 0) := by rw [noGap_cut h, if_neg (by rw [hl]; simp), if_neg (by rw [hf]; simp), if_neg (by rw [hq]; simp), if_pos hs]
  unfold lfirst
  rw [e0]
  simp [ltoken]
theorem lfirst_none {x : UInt8} {r : List UInt8} (h : NoGap (x :: r)) (hl : lxLet x = false) (hf : lxFig x = false) (hq : lxQuote x = false) (hs : lxSign x = false) : (lfirst (x :: r)).2.2 = 9 := by
  have e0 : lcut (x :: r) = (0, 0, 9) := by rw [noGap_cut h, if_neg (by rw [hl]; simp), if_neg (by rw [hf]; simp), if_neg (by rw [hq]; simp), if_neg (by rw [hs]; simp)]
  unfold lfirst
  rw [e0]
  simp

theorem noGap_k {x : UInt8} {r : List UInt8} (h : NoGap (x :: r)) (h0 : (lfirst (x :: r)).2.2 = 0) : (lfirst (x :: r)).1.k ≠ 0 := by
  rw [lfirst_k (by simp) h0]
  have hc := (lfirst_size (by simp) h0).2.2.1
  rw [noGap_cut h] at hc ⊢
  split
  · simp
  rename_i h1
  rw [if_neg h1] at hc
  split
  · simp
  rename_i h2
  rw [if_neg h2] at hc
  split
  · simp
  rename_i h3
  rw [if_neg h3] at hc
  split
  · simp
  rename_i h4
  rw [if_neg h4] at hc
  cases hc
theorem index_byte_at {r : List UInt8} {x : UInt8} {j : Nat} (hno : ∀ k : Nat, k < j → r[k]? ≠ some x) (hx : r[j]? = some x) : Lib.index r [x] = (j : Int) := by
  rw [Lib.index_one]
  have hge := Lib.indexByte_ge r x
  by_cases h : Lib.indexByte r x = -1
  · exact absurd hx (Lib.indexByte_none h j)
  · obtain ⟨o, ho⟩ : ∃ o : Nat, Lib.indexByte r x = (o : Int) := ⟨(Lib.indexByte r x).toNat, by omega⟩
    obtain ⟨h1, h2⟩ := Lib.indexByte_some ho
    rw [ho]
    rcases Nat.lt_trichotomy o j with hlt | rfl | hgt
    · exact absurd h1 (hno o hlt)
    · rfl
    · exact absurd hx (h2 j hgt)
theorem index_byte_no {r : List UInt8} {x : UInt8} (hno : ∀ k : Nat, r[k]? ≠ some x) : Lib.index r [x] < 0 := by
  rw [Lib.index_one]
  have hge := Lib.indexByte_ge r x
  by_cases h : Lib.indexByte r x < 0
  · exact h
  · obtain ⟨o, ho⟩ : ∃ o : Nat, Lib.indexByte r x = (o : Int) := ⟨(Lib.indexByte r x).toNat, by omega⟩
    exact absurd (Lib.indexByte_some ho).1 (hno o)
/-- What stands in a text that is no right one: a backslash or a line feed. -/
def Bad (l : List UInt8) : Prop := (92 : UInt8) ∈ l ∨ (10 : UInt8) ∈ l
theorem bad_snoc {l : List UInt8} {j : Nat} {c : UInt8} (h : l[j]? = some c) : Bad (l.take (j + 1)) ↔ Bad (l.take j) ∨ ((c.toNat : Int) = 92 ∨ (c.toNat : Int) = 10) := by
  have e : l.take (j + 1) = l.take j ++ [c] := by rw [List.take_add_one, h]; rfl
  have e1 : (c.toNat : Int) = 92 ↔ 92 = c := ⟨fun h => UInt8.toNat_inj.1 (by simp; omega), fun h => by subst h; rfl⟩
  have e2 : (c.toNat : Int) = 10 ↔ 10 = c := ⟨fun h => UInt8.toNat_inj.1 (by simp; omega), fun h => by subst h; rfl⟩
  unfold Bad
  rw [e, e1, e2]
  simp only [List.mem_append, List.mem_singleton]
  constructor
  · rintro ((h | h) | (h | h))
    · exact .inl (.inl h)
    · exact .inr (.inl h)
    · exact .inl (.inr h)
    · exact .inr (.inr h)
  · rintro ((h | h) | (h | h))
    · exact .inl (.inl h)
    · exact .inr (.inl h)
    · exact .inl (.inr h)
    · exact .inr (.inr h)
end Go.Proofs.YtgpihhigajmldaaDoor
