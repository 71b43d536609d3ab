/- The contracts of the lexer's and the reference's tests on one byte. No condition. -/
import Derived.Test.YtgpihhigajmldaaDoorProg
import Derived.Test.YtgpihhigajmldaaDoorLexMath
import Derived.WalkKit
import Derived.Lib.Hide
namespace Go.Proofs.YtgpihhigajmldaaDoor
open Go.RowKit

/-- A call that answers one value and leaves the world. -/
abbrev Ans (v : Value) (w : World) (e : Ending) (w' : World) : Prop := e = .returned v ∧ w' = w

theorem byte_eq (b c : UInt8) : (b == c) = decide ((b.toNat : Int) = (c.toNat : Int)) := by
  by_cases h : b = c
  · simp [h]
  · have : ¬ (b.toNat : Int) = (c.toNat : Int) := fun e => h (UInt8.toNat_inj.1 (by omega))
    simp [h, this]

set_option maxRecDepth 100000 in
theorem isGap_any (w : World) (b : UInt8) : Calls Tryd.prog 45 #[.int .u8 (b.toNat : Int)] w (Ans (.bool (lxGap b)) w) := by
  have e : lxGap b = (decide ((b.toNat : Int) = 32) || decide ((b.toNat : Int) = 9) || decide ((b.toNat : Int) = 13) || decide ((b.toNat : Int) = 10)) := by
    simp only [lxGap, byte_eq]; rfl
  rw [e]
  clear e
  generalize (b.toNat : Int) = B
  go_enter Tryd.func45, Tryd.ntmps45
  go_wp2
  all_goals (go_ret; refine ⟨congrArg (fun x => Ending.returned (Value.bool x)) ?_, rfl⟩; rw [Bool.eq_iff_iff] <;> first | grind | (simp; done) | (simp; omega))

set_option maxRecDepth 100000 in
theorem isQuote_any (w : World) (b : UInt8) : Calls Tryd.prog 49 #[.int .u8 (b.toNat : Int)] w (Ans (.bool (lxQuote b)) w) := by
  have e : lxQuote b = (decide ((b.toNat : Int) = 34) || decide ((b.toNat : Int) = 39)) := by
    simp only [lxQuote, byte_eq]; rfl
  rw [e]
  clear e
  generalize (b.toNat : Int) = B
  go_enter Tryd.func49, Tryd.ntmps49
  go_wp2
  all_goals (go_ret; refine ⟨congrArg (fun x => Ending.returned (Value.bool x)) ?_, rfl⟩; rw [Bool.eq_iff_iff] <;> first | grind | (simp; done) | (simp; omega))

set_option maxRecDepth 100000 in
theorem isFigure_any (w : World) (b : UInt8) : Calls Tryd.prog 37 #[.int .u8 (b.toNat : Int)] w (Ans (.bool (lxFig b)) w) := by
  have e : lxFig b = decide (48 ≤ (b.toNat : Int) ∧ (b.toNat : Int) ≤ 57) := by
    simp only [lxFig]; exact decide_eq_decide.2 (by omega)
  rw [e]
  clear e
  generalize (b.toNat : Int) = B
  go_enter Tryd.func37, Tryd.ntmps37
  go_wp2
  all_goals (go_ret; refine ⟨congrArg (fun x => Ending.returned (Value.bool x)) ?_, rfl⟩; rw [Bool.eq_iff_iff] <;> first | grind | (simp; done) | (simp; omega))

set_option maxRecDepth 100000 in
theorem beginsWord_any (w : World) (b : UInt8) : Calls Tryd.prog 26 #[.int .u8 (b.toNat : Int)] w (Ans (.bool (lxLet b)) w) := by
  have e : lxLet b = (decide (97 ≤ (b.toNat : Int) ∧ (b.toNat : Int) ≤ 122) || decide (65 ≤ (b.toNat : Int) ∧ (b.toNat : Int) ≤ 90) || decide ((b.toNat : Int) = 95)) := by
    unfold lxLet; rw [byte_eq, show ((95 : UInt8).toNat : Int) = 95 from rfl, Bool.eq_iff_iff]; simp only [Bool.or_eq_true, decide_eq_true_eq]; omega
  rw [e]
  clear e
  generalize (b.toNat : Int) = B
  go_enter Tryd.func26, Tryd.ntmps26
  go_wp2
  all_goals (go_ret; refine ⟨congrArg (fun x => Ending.returned (Value.bool x)) ?_, rfl⟩; rw [Bool.eq_iff_iff] <;> first | grind | (simp; done) | (simp; omega))

set_option maxRecDepth 100000 in
theorem ref_figure_any (w : World) (b : UInt8) : Calls Tryd.prog 24 #[.int .u8 (b.toNat : Int)] w (Ans (.bool (lxFig b)) w) := by
  have e : lxFig b = decide (48 ≤ (b.toNat : Int) ∧ (b.toNat : Int) ≤ 57) := by
    simp only [lxFig]; exact decide_eq_decide.2 (by omega)
  rw [e]
  clear e
  generalize (b.toNat : Int) = B
  go_enter Tryd.func24, Tryd.ntmps24
  go_wp2
  all_goals (go_ret; refine ⟨congrArg (fun x => Ending.returned (Value.bool x)) ?_, rfl⟩; rw [Bool.eq_iff_iff] <;> first | grind | (simp; done) | (simp; omega))

set_option maxRecDepth 100000 in
theorem ref_letter_any (w : World) (b : UInt8) : Calls Tryd.prog 23 #[.int .u8 (b.toNat : Int)] w (Ans (.bool (lxLet b)) w) := by
  have e : lxLet b = (decide (97 ≤ (b.toNat : Int) ∧ (b.toNat : Int) ≤ 122) || decide (65 ≤ (b.toNat : Int) ∧ (b.toNat : Int) ≤ 90) || decide ((b.toNat : Int) = 95)) := by
    unfold lxLet; rw [byte_eq, show ((95 : UInt8).toNat : Int) = 95 from rfl, Bool.eq_iff_iff]; simp only [Bool.or_eq_true, decide_eq_true_eq]; omega
  rw [e]
  clear e
  generalize (b.toNat : Int) = B
  go_enter Tryd.func23, Tryd.ntmps23
  go_wp2
  all_goals (go_ret; refine ⟨congrArg (fun x => Ending.returned (Value.bool x)) ?_, rfl⟩; rw [Bool.eq_iff_iff] <;> first | grind | (simp; done) | (simp; omega))

set_option maxRecDepth 100000 in
theorem digit_any (w : World) (b : UInt8) : Calls Tryd.prog 62 #[.int .u8 (b.toNat : Int)] w (Ans (.int .i64 (ldig b : Int)) w) := by
  have hB := b.toNat_lt
  unfold ldig
  generalize b.toNat = B at *
  go_enter Tryd.func62, Tryd.ntmps62
  go_wp2
  all_goals (go_ret; refine ⟨congrArg (fun x => Ending.returned (Value.int .i64 x)) ?_, rfl⟩; (repeat' split) <;> (try simp) <;> omega)

def ldig99 (b : UInt8) : Nat :=
  if 48 ≤ b.toNat ∧ b.toNat ≤ 57 then b.toNat - 48 else if 97 ≤ b.toNat ∧ b.toNat ≤ 102 then b.toNat - 97 + 10
  else if 65 ≤ b.toNat ∧ b.toNat ≤ 70 then b.toNat - 65 + 10 else 99

set_option maxRecDepth 100000 in
theorem ref_digit_any (w : World) (b : UInt8) : Calls Tryd.prog 36 #[.int .u8 (b.toNat : Int)] w (Ans (.int .i64 (ldig99 b : Int)) w) := by
  have HF := Lib.hid (fun u => ref_figure_any u b)
  have hB := b.toNat_lt
  unfold ldig99
  generalize b.toNat = B at *
  go_enter Tryd.func36, Tryd.ntmps36
  go_wp2
  all_goals (go_ret; refine ⟨congrArg (fun x => Ending.returned (Value.int .i64 x)) ?_, rfl⟩; (repeat' split) <;> (try simp) <;> omega)

set_option maxRecDepth 100000 in
theorem inWord_any (w : World) (b : UInt8) : Calls Tryd.prog 28 #[.int .u8 (b.toNat : Int)] w (Ans (.bool (lxIn b)) w) := by
  have H1 := Lib.hid (beginsWord_any w b)
  have H2 := Lib.hid (isFigure_any w b)
  have e : lxIn b = (lxLet b || lxFig b) := rfl
  rw [e]
  clear e
  generalize lxLet b = x at *
  generalize lxFig b = y at *
  go_enter Tryd.func28, Tryd.ntmps28
  go_wp2_with (first | (go_at_call 26; refine H1.out.mono ?_; rintro e w' ⟨rfl, rfl⟩) | (go_at_call 37; refine H2.out.mono ?_; rintro e w' ⟨rfl, rfl⟩))
  all_goals (go_ret; refine ⟨congrArg (fun x => Ending.returned (Value.bool x)) ?_, rfl⟩; simp_all)
end Go.Proofs.YtgpihhigajmldaaDoor
