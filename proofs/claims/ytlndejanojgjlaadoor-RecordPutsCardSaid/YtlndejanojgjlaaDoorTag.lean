/- The contracts of tag.Check, tag.word, tag.Put and of the reference's Check and Put. Condition: where an error is answered, the errors' variables hold what the program's text lays. -/
import Derived.Test.YtlndejanojgjlaaDoorProg
import Derived.Test.YtlndejanojgjlaaDoorMem
import Derived.Test.YtlndejanojgjlaaDoorNum
import Derived.Test.YtlndejanojgjlaaDoorVput
import Derived.Test.YtlndejanojgjlaaDoorVparse
import Derived.Deep.Onto
namespace Go.Proofs.YtlndejanojgjlaaDoor
open Go.RowKit

/-- What a tag's check answers, as an error's number. -/
def tcheck (n k : Int) : Nat :=
  if n < 1 ∨ 536870911 < n then 5 else if k = 3 ∨ k = 4 then 6 else if k = 0 ∨ k = 1 ∨ k = 2 ∨ k = 5 then 0 else 12
/-- The variables of the three errors that a tag's check answers. -/
structure Three (w : World) (A : Nat → Addr) : Prop where
  tag : w.cell? ⟨2, 0, none⟩ = some (errV A 4)
  group : w.cell? ⟨6, 0, none⟩ = some (errV A 5)
  kind : w.cell? ⟨11, 0, none⟩ = some (errV A 11)
theorem Errs.three {w : World} {A : Nat → Addr} (h : Errs w A) : Three w A := ⟨h.holds 4 _ rfl, h.holds 5 _ rfl, h.holds 11 _ rfl⟩

theorem Three.below {w w' : World} {A : Nat → Addr} (h : Three w A) (hb : Below w.heap.size w w') : Three w' A :=
  ⟨(hb.cell (p := ⟨_, 0, none⟩) (World.block_lt_of_cell? w ⟨_, 0, none⟩ h.tag)).trans h.tag, (hb.cell (p := ⟨_, 0, none⟩) (World.block_lt_of_cell? w ⟨_, 0, none⟩ h.group)).trans h.group, (hb.cell (p := ⟨_, 0, none⟩) (World.block_lt_of_cell? w ⟨_, 0, none⟩ h.kind)).trans h.kind⟩
/-- The value of a tag. -/
def tagV (n k : Int) : Value := .agg #[.int .i64 n, .int .i64 k]

theorem tcheck_le (n k : Int) : tcheck n k ≤ 12 := by unfold tcheck; split <;> (try split) <;> (try split) <;> omega
theorem tcheck_zero {n k : Int} (h : tcheck n k = 0) : 1 ≤ n ∧ n ≤ 536870911 ∧ (k = 0 ∨ k = 1 ∨ k = 2 ∨ k = 5) := by
  unfold tcheck at h
  split at h
  · cases h
  · split at h
    · cases h
    · split at h
      · omega
      · cases h

set_option maxRecDepth 100000 in
theorem tagCheck_any (w : World) (A : Nat → Addr) (n k : Int) (hE : tcheck n k ≠ 0 → Three w A) :
    Calls Tryd.prog 31 #[tagV n k] w fun e w' => e = .returned (errOf A (tcheck n k)) ∧ Below w.heap.size w w' := by
  obtain ⟨R, hR⟩ : ∃ R, R = tcheck n k := ⟨_, rfl⟩
  rw [← hR] at hE ⊢
  unfold tcheck at hR
  unfold tagV
  go_enter Tryd.func31, Tryd.ntmps31
  by_cases h1 : n < 1 ∨ 536870911 < n
  · rw [if_pos h1] at hR
    subst hR
    obtain ⟨e4, e5, e11⟩ := (hE (by decide)).below ((Below.refl _ _).alloc (Nat.le_refl _) (.cells #[.int .i64 n, .int .i64 k] 26))
    rcases (show n < 1 ∨ (¬ n < 1 ∧ 536870911 < n) by omega) with h | ⟨h, h'⟩
    all_goals
      clear h1 hE
      go_wp2
      go_ret
      exact ⟨rfl, (Below.refl _ _).alloc (Nat.le_refl _) _⟩
  · rw [if_neg h1] at hR
    have h1a : ¬ n < 1 := by omega
    have h1b : ¬ 536870911 < n := by omega
    by_cases h2 : k = 3 ∨ k = 4
    · rw [if_pos h2] at hR
      subst hR
      obtain ⟨e4, e5, e11⟩ := (hE (by decide)).below ((Below.refl _ _).alloc (Nat.le_refl _) (.cells #[.int .i64 n, .int .i64 k] 26))
      rcases h2 with rfl | rfl
      all_goals
        clear h1 hE
        go_wp2
        go_ret
        exact ⟨rfl, (Below.refl _ _).alloc (Nat.le_refl _) _⟩
    · rw [if_neg h2] at hR
      by_cases h3 : k = 0 ∨ k = 1 ∨ k = 2 ∨ k = 5
      · rw [if_pos h3] at hR
        subst hR
        rcases h3 with rfl | rfl | rfl | rfl
        all_goals
          clear h1 h2 hE
          go_wp2
          go_ret
          exact ⟨rfl, (Below.refl _ _).alloc (Nat.le_refl _) _⟩
      · rw [if_neg h3] at hR
        subst hR
        obtain ⟨e4, e5, e11⟩ := (hE (by decide)).below ((Below.refl _ _).alloc (Nat.le_refl _) (.cells #[.int .i64 n, .int .i64 k] 26))
        have k0 : k ≠ 0 := by omega
        have k1 : k ≠ 1 := by omega
        have k2 : k ≠ 2 := by omega
        have k3 : k ≠ 3 := by omega
        have k4 : k ≠ 4 := by omega
        have k5 : k ≠ 5 := by omega
        clear h1 h2 h3 hE
        go_wp2
        go_ret
        exact ⟨rfl, (Below.refl _ _).alloc (Nat.le_refl _) _⟩

set_option maxRecDepth 100000 in
theorem refCheck_any (w : World) (n k : Int) :
    Calls Tryd.prog 28 #[.int .i64 n, .int .i64 k] w fun e w' => e = .returned (.int .i64 (tcheck n k : Int)) ∧ w = w' := by
  obtain ⟨R, hR⟩ : ∃ R, R = tcheck n k := ⟨_, rfl⟩
  rw [← hR]
  unfold tcheck at hR
  go_enter Tryd.func28, Tryd.ntmps28
  by_cases h1 : n < 1 ∨ 536870911 < n
  · rw [if_pos h1] at hR
    subst hR
    rcases (show n < 1 ∨ (¬ n < 1 ∧ 536870911 < n) by omega) with h | ⟨h, h'⟩
    all_goals
      clear h1
      go_wp2
      go_ret
      exact ⟨rfl, rfl⟩
  · rw [if_neg h1] at hR
    have h1a : ¬ n < 1 := by omega
    have h1b : ¬ 536870911 < n := by omega
    by_cases h2 : k = 3 ∨ k = 4
    · rw [if_pos h2] at hR
      subst hR
      rcases h2 with rfl | rfl
      all_goals
        clear h1
        go_wp2
        go_ret
        exact ⟨rfl, rfl⟩
    · rw [if_neg h2] at hR
      by_cases h3 : k = 0 ∨ k = 1 ∨ k = 2 ∨ k = 5
      · rw [if_pos h3] at hR
        subst hR
        rcases h3 with rfl | rfl | rfl | rfl
        all_goals
          clear h1 h2
          go_wp2
          go_ret
          exact ⟨rfl, rfl⟩
      · rw [if_neg h3] at hR
        subst hR
        have k0 : k ≠ 0 := by omega
        have k1 : k ≠ 1 := by omega
        have k2 : k ≠ 2 := by omega
        have k3 : k ≠ 3 := by omega
        have k4 : k ≠ 4 := by omega
        have k5 : k ≠ 5 := by omega
        rcases (show k < 0 ∨ 5 < k by omega) with hk | hk
        all_goals
          clear h1 h2 h3
          go_wp2
          all_goals first
            | (exfalso; simp at *; omega)
            | (go_ret
               exact ⟨rfl, rfl⟩)

/-- The number that a right tag's bytes are the varint of. -/
def tword (n k : Int) : Nat := (n * 8 + k).toNat
theorem tword_eq {n k : Int} (h : tcheck n k = 0) : (tword n k : Int) = n * 8 + k := by
  have := tcheck_zero h
  unfold tword
  omega
theorem tword_lt {n k : Int} (h : tcheck n k = 0) : tword n k < 4294967296 := by
  have := tcheck_zero h
  unfold tword
  omega

set_option maxRecDepth 100000 in
theorem tagWord_any (w : World) (n k : Int) (h : tcheck n k = 0) :
    Calls Tryd.prog 51 #[tagV n k] w fun e w' => e = .returned (.int .u64 (tword n k : Int)) ∧ Below w.heap.size w w' := by
  obtain ⟨h1, h2, h3⟩ := tcheck_zero h
  have hk : 0 ≤ k ∧ k ≤ 5 := by omega
  rw [tword_eq h]
  clear h h3
  unfold tagV
  go_enter Tryd.func51, Tryd.ntmps51
  go_wp2
  go_ret
  exact ⟨rfl, (Below.refl _ _).alloc (Nat.le_refl _) _⟩

set_option maxRecDepth 100000 in
theorem tagPut_bad (w : World) (A : Nat → Addr) (n k : Int) (h : tcheck n k ≠ 0) (hE : Three w A) :
    Calls Tryd.prog 29 #[tagV n k] w fun e w' => e = .returned (.tuple #[.slice none 0 0, errOf A (tcheck n k)]) ∧ Below w.heap.size w w' := by
  obtain ⟨w1, hw1⟩ : ∃ w1, w1 = w.alloc (.cells #[.int .i64 n, .int .i64 k] 26) := ⟨_, rfl⟩
  have hb1 : Below w.heap.size w w1 := hw1 ▸ (Below.refl _ _).alloc (Nat.le_refl _) _
  have HC := tagCheck_any w1 A n k (fun _ => hE.below hb1)
  obtain ⟨b, hb⟩ := Nat.exists_eq_succ_of_ne_zero h
  rw [hb] at HC ⊢
  rw [show errOf A b.succ = errV A b from rfl] at HC ⊢
  have hne := neq_errV A b
  rw [hw1] at HC
  unfold tagV at HC ⊢
  clear h hb
  go_enter Tryd.func29, Tryd.ntmps29
  go_wp2_with fail
  refine HC.mono ?_
  rintro e w2 ⟨rfl, hb2⟩
  rw [← hw1] at hb2
  go_wp2_with fail
  go_ret2
  exact ⟨rfl, hb1.trans (hb2.mono hb1.size)⟩

set_option maxRecDepth 100000 in
theorem tagPut_ok (w : World) (n k : Int) (h : tcheck n k = 0) :
    Calls Tryd.prog 29 #[tagV n k] w fun e w' => ∃ v, e = .returned (.tuple #[v, .nilIface]) ∧ w'.ownsRow w.heap.size 5 1 v (vput (tword n k)).length ((vput (tword n k)).map bv) ∧ Below w.heap.size w w' := by
  obtain ⟨w1, hw1⟩ : ∃ w1, w1 = w.alloc (.cells #[.int .i64 n, .int .i64 k] 26) := ⟨_, rfl⟩
  have hb1 : Below w.heap.size w w1 := hw1 ▸ (Below.refl _ _).alloc (Nat.le_refl _) _
  have hk1 : Blk w1 w.heap.size 26 [.int .i64 n, .int .i64 k] := hw1 ▸ Blk.new w _ _
  have HC := tagCheck_any w1 (fun _ => ⟨0, 0, none⟩) n k (fun hh => absurd h hh)
  rw [h, show errOf (fun _ => ⟨0, 0, none⟩) 0 = Value.nilIface from rfl, hw1] at HC
  have hlt := tword_lt h
  unfold tagV at HC ⊢
  go_enter Tryd.func29, Tryd.ntmps29
  go_wp2_with fail
  refine HC.mono ?_
  rintro e w2 ⟨rfl, hb2⟩
  rw [← hw1] at hb2
  have hk2 := hk1.kept hb2
  have c0 := hk2.cell 0
  have c1 := hk2.cell 1
  simp only [List.getElem?_cons_zero, List.getElem?_cons_succ] at c0 c1
  go_wp2_with fail
  refine (tagWord_any w2 n k h).mono ?_
  rintro e w3 ⟨rfl, hb3⟩
  go_wp2_with fail
  refine (vPut_any w3 none [] 0 (tword n k) 0 (Nat.zero_le _) (by simp) (by omega) (Sl.nil _ _ _)).mono ?_
  rintro e w4 ⟨v, rfl, hown, hb4⟩
  rw [List.nil_append] at hown
  have hb02 := hb1.trans (hb2.mono hb1.size)
  have hb03 := hb02.trans (hb3.mono hb02.size)
  go_wp2_with fail
  go_ret2
  exact ⟨v, rfl, World.ownsRow.mono hown hb03.size, hb03.trans (hb4.mono hb03.size)⟩

set_option maxRecDepth 100000 in
theorem refTagPut_any (w : World) (n k : Int) (h : tcheck n k = 0) :
    Calls Tryd.prog 32 #[.int .i64 n, .int .i64 k] w (Owned w (vput (tword n k))) := by
  obtain ⟨h1, h2, h3⟩ := tcheck_zero h
  have hk : 0 ≤ k ∧ k ≤ 5 := by omega
  have HP := vRefPut_any (tword n k) w (by have := tword_lt h; omega)
  rw [tword_eq h] at HP
  clear h h3
  go_enter Tryd.func32, Tryd.ntmps32
  go_wp2_with fail
  refine HP.mono ?_
  rintro e w1 ⟨v, rfl, hown, hb⟩
  go_wp2_with fail
  go_ret
  exact ⟨v, rfl, hown, hb⟩

end Go.Proofs.YtlndejanojgjlaaDoor
