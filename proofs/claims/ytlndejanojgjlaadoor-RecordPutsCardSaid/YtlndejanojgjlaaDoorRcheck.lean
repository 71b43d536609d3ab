/- The contracts of record.Check, record.Put and of redlineref04's Check and Put. Conditions: texts of fewer than 2^46 bytes; the errors' variables hold what the program's text lays. -/
import Derived.Test.YtlndejanojgjlaaDoorProg
import Derived.Test.YtlndejanojgjlaaDoorMem
import Derived.Test.YtlndejanojgjlaaDoorRet
import Derived.Test.YtlndejanojgjlaaDoorTag
import Derived.Test.YtlndejanojgjlaaDoorRefPut
import Derived.Test.YtlndejanojgjlaaDoorRec2
import Derived.Test.YtlndejanojgjlaaDoorRparse
import Derived.Lib.AppendStr
import Derived.BigGuardPart
namespace Go.Proofs.YtlndejanojgjlaaDoor
open Go.RowKit

/-- What a record's check answers, as an error's number. -/
def rcheck (n k : Int) (bits : Nat) (text : List UInt8) : Nat :=
  if tcheck n k ≠ 0 then tcheck n k else if (k = 2 ∧ bits ≠ 0) ∨ (k ≠ 2 ∧ text ≠ []) then 9 else if k = 5 ∧ 4294967296 ≤ bits then 1 else 0
theorem rcheck_le (n k : Int) (bits : Nat) (text : List UInt8) : rcheck n k bits text ≤ 12 := by
  have := tcheck_le n k
  unfold rcheck
  split
  · exact this
  · split <;> (try split) <;> omega
/-- How a right tag's kind, the bits and the text may stand. -/
inductive Way (k : Int) (bits : Nat) (text : List UInt8) : Nat → Prop
  | bits2 (h : k = 2) (hb : (bits : Int) ≠ 0) : Way k bits text 9
  | ok2 (h : k = 2) (hb : bits = 0) : Way k bits text 0
  | text0 (h : k = 0) (x : UInt8) (t : List UInt8) (ht : text = x :: t) : Way k bits text 9
  | text1 (h : k = 1) (x : UInt8) (t : List UInt8) (ht : text = x :: t) : Way k bits text 9
  | text5 (h : k = 5) (x : UInt8) (t : List UInt8) (ht : text = x :: t) : Way k bits text 9
  | ok0 (h : k = 0) (ht : text = []) : Way k bits text 0
  | ok1 (h : k = 1) (ht : text = []) : Way k bits text 0
  | far5 (h : k = 5) (ht : text = []) (hb : (4294967296 : Int) ≤ (bits : Int)) : Way k bits text 1
  | ok5 (h : k = 5) (ht : text = []) (hb : (bits : Int) < 4294967296) : Way k bits text 0
theorem rcheck_way {n k : Int} (bits : Nat) (text : List UInt8) (h : tcheck n k = 0) : Way k bits text (rcheck n k bits text) := by
  obtain ⟨_, _, hk⟩ := tcheck_zero h
  unfold rcheck
  rw [if_neg (by omega)]
  rcases hk with rfl | rfl | rfl | rfl
  · by_cases ht : text = []
    · rw [if_neg (by simp [ht]), if_neg (by omega)]; exact .ok0 rfl ht
    · rw [if_pos (.inr ⟨by decide, ht⟩)]; obtain ⟨x, t, hx⟩ := List.exists_cons_of_ne_nil ht; exact .text0 rfl x t hx
  · by_cases ht : text = []
    · rw [if_neg (by simp [ht]), if_neg (by omega)]; exact .ok1 rfl ht
    · rw [if_pos (.inr ⟨by decide, ht⟩)]; obtain ⟨x, t, hx⟩ := List.exists_cons_of_ne_nil ht; exact .text1 rfl x t hx
  · by_cases hb : bits = 0
    · rw [if_neg (by simp [hb]), if_neg (by omega)]; exact .ok2 rfl hb
    · rw [if_pos (.inl ⟨rfl, hb⟩)]; exact .bits2 rfl (by omega)
  · by_cases ht : text = []
    · by_cases hb : 4294967296 ≤ bits
      · rw [if_neg (by simp [ht]), if_pos ⟨rfl, hb⟩]; exact .far5 rfl ht (by omega)
      · rw [if_neg (by simp [ht]), if_neg (by omega)]; exact .ok5 rfl ht (by omega)
    · rw [if_pos (.inr ⟨by decide, ht⟩)]; obtain ⟨x, t, hx⟩ := List.exists_cons_of_ne_nil ht; exact .text5 rfl x t hx

set_option maxRecDepth 100000 in
set_option maxHeartbeats 2000000 in
theorem recCheck_any (w : World) (A : Nat → Addr) (hE : Errs w A) (n k : Int) (bits : Nat) (text raw : List UInt8) :
    Calls Tryd.prog 17 #[recV n k bits text raw] w fun e w' => e = .returned (errOf A (rcheck n k bits text)) ∧ Below w.heap.size w w' := by
  obtain ⟨w1, hw1⟩ : ∃ w1, w1 = w.alloc (.cells #[.int .i64 n, .int .i64 k, .int .u64 (bits : Int), .string (str text), .string (str raw)] 29) := ⟨_, rfl⟩
  have hb1 : Below w.heap.size w w1 := hw1 ▸ (Below.refl _ _).alloc (Nat.le_refl _) _
  have hk1 : Blk w1 w.heap.size 29 (recCells n k bits text raw) := hw1 ▸ Blk.new w _ _
  have HC := tagCheck_any w1 A n k (fun _ => (hE.below hb1).three)
  rw [hw1] at HC
  unfold recV
  by_cases h : tcheck n k = 0
  · have HW := rcheck_way bits text h
    generalize rcheck n k bits text = R at *
    rw [h, show errOf A 0 = Value.nilIface from rfl] at HC
    unfold tagV at HC
    clear h
    cases HW
    all_goals
      subst k
      first | subst bits | subst text | skip
      go_enter Tryd.func17, Tryd.ntmps17
      go_wp2_with fail
      refine HC.mono ?_
      rintro e w2 ⟨rfl, hb2⟩
      rw [← hw1] at hb2
      have hk2 := hk1.kept hb2
      have h02 := hb1.trans (hb2.mono hb1.size)
      have c0 := hk2.cell 0
      have c1 := hk2.cell 1
      have c2 := hk2.cell 2
      have c3 := hk2.cell 3
      simp only [recCells, List.getElem?_cons_zero, List.getElem?_cons_succ] at c0 c1 c2 c3
      have e8 : w2.cell? ⟨0, 0, none⟩ = some (errV A 8) := (hE.below h02).holds 8 _ rfl
      have e0 : w2.cell? ⟨1, 0, none⟩ = some (errV A 0) := (hE.below h02).holds 0 _ rfl
      clear hw1 HC hk1 hk2 hE hb1 hb2
      try (generalize ((bits : Nat) : Int) = z at *)
      have hn := str_toList
      go_wp2_with fail
      go_ret
      exact ⟨rfl, h02⟩
  · have he : rcheck n k bits text = tcheck n k := by unfold rcheck; rw [if_pos h]
    rw [he]
    obtain ⟨b, hb⟩ := Nat.exists_eq_succ_of_ne_zero h
    rw [hb] at HC ⊢
    rw [show errOf A b.succ = errV A b from rfl] at HC ⊢
    have hne := neq_errV A b
    unfold tagV at HC
    clear h hb he
    go_enter Tryd.func17, Tryd.ntmps17
    go_wp2_with fail
    refine HC.mono ?_
    rintro e w2 ⟨rfl, hb2⟩
    rw [← hw1] at hb2
    have h02 := hb1.trans (hb2.mono hb1.size)
    clear hw1 HC
    go_wp2_with fail
    go_ret
    exact ⟨rfl, h02⟩

end Go.Proofs.YtlndejanojgjlaaDoor
