/- The contract of lexer.first: the token with which a text begins, and its size. Conditions: fewer than 1000000000 bytes; the errors' variables hold what the program's text lays. -/
import Derived.Test.YtgpihhigajmldaaDoorProg
import Derived.Test.YtgpihhigajmldaaDoorLexTok
namespace Go.Proofs.YtgpihhigajmldaaDoor
open Go.RowKit

theorem lcut_kind (l : List UInt8) : (lcut l).1 ≤ 4 := by
  unfold lcut
  repeat' split
  all_goals simp
theorem lcut_text {l : List UInt8} (h0 : 0 < l.length) (hk : (lcut l).1 = 3) (h : (lcut l).2.2 = 0) : 2 ≤ (lcut l).2.1 := by
  have h1 := fun h => lclosed_size (k := 1) (e := [l.headD 0]) (l := l) (by omega) h
  unfold lcut at hk h ⊢
  repeat' split at hk
  all_goals (first | (exfalso; simp at hk; done) | skip)
  rename_i a b c d e f
  rw [if_neg a, if_neg b, if_neg c, if_neg d, if_neg e, if_pos f] at h ⊢
  have := (h1 h).1
  simp only [List.length_cons, List.length_nil] at this
  simp only
  omega
theorem token_any (w : World) (A : Nat → Addr) (m : Int) (hL : Lx w A m) (k : Nat) (p : List UInt8) (hk : k ≤ 4) (h0 : k = 2 → 0 < p.length) (h2 : k = 3 → 2 ≤ p.length) (hl : p.length < 1000000000) :
    Calls Tryd.prog 35 #[.int .i64 (k : Int), .string (str p)] w (TokR w A (ltoken k p)) := by
  unfold ltoken
  match k, hk with
  | 0, _ => exact token_gap w A p
  | 1, _ =>
    rw [if_neg (by omega), if_pos rfl]
    by_cases h : 40 < p.length
    · rw [if_pos h]; exact token_long w A m hL p h
    · rw [if_neg h]; exact token_word w A p h
  | 2, _ =>
    rw [if_neg (by omega), if_neg (by omega), if_pos rfl]
    by_cases h : (lnum p).2 = 0
    · rw [if_pos h]; exact token_int w A m hL p (h0 rfl) hl h
    · rw [if_neg h]
      obtain ⟨b, hb⟩ : ∃ b, (lnum p).2 = b + 1 := ⟨(lnum p).2 - 1, by omega⟩
      rw [hb]
      exact token_nan w A m hL p (h0 rfl) hl b hb
  | 3, _ =>
    rw [if_neg (by omega), if_neg (by omega), if_neg (by omega), if_pos rfl]
    by_cases h : (92 : UInt8) ∈ (p.drop 1).take (p.length - 2) ∨ (10 : UInt8) ∈ (p.drop 1).take (p.length - 2)
    · rw [if_pos h]; exact token_untext w A m hL p (h2 rfl) hl (decide_eq_true h)
    · rw [if_neg h]; exact token_text w A p (h2 rfl) hl (decide_eq_false h)
  | 4, _ =>
    rw [if_neg (by omega), if_neg (by omega), if_neg (by omega), if_neg (by omega)]
    exact token_sign w A p hl

/-- What first answers. -/
def FirstR (w : World) (A : Nat → Addr) (r : Tok × Nat × Nat) (e : Ending) (w' : World) : Prop :=
  e = .returned (.tuple #[tokV r.1, .int .i64 (r.2.1 : Int), errOf A r.2.2]) ∧ Below w.heap.size w w'

set_option maxRecDepth 100000 in
set_option maxHeartbeats 1000000 in
theorem first_any (w : World) (A : Nat → Addr) (m : Int) (hL : Lx w A m) (l : List UInt8) (h0 : 0 < l.length) (hl : l.length < 1000000000) :
    Calls Tryd.prog 19 #[.string (str l)] w (FirstR w A (lfirst l)) := by
  obtain ⟨w1, hw1⟩ : ∃ w1, w1 = w.alloc (.cells (tokCells ⟨0, [], 0⟩ 0 0).toArray 34) := ⟨_, rfl⟩
  have hk1 : Blk w1 w.heap.size 34 (tokCells ⟨0, [], 0⟩ 0 0) := hw1 ▸ Blk.new w _ _
  have hb1 : Below w.heap.size w w1 := hw1 ▸ (Below.refl _ _).alloc (Nat.le_refl _) _
  have HC := Lib.hid (cut_any w1 A m (hL.below hb1) l h0 hl)
  have hkind := lcut_kind l
  have hsz := fun h => lcut_size (l := l) h0 h
  have htx := fun hk h => lcut_text (l := l) h0 hk h
  unfold CutR at HC
  unfold lfirst
  generalize lcut l = C at *
  obtain ⟨k, s, b⟩ := C
  simp only at HC hkind hsz htx ⊢
  by_cases hb : b = 0
  · subst hb
    rw [if_neg (by omega)]
    obtain ⟨hs0, hs1⟩ := hsz rfl
    have hup := str_upto l s hs1
    rw [show errOf A 0 = Value.nilIface from rfl] at HC
    have HT := Lib.hid (fun (u : World) (hu : Lx u A m) => token_any u A m hu k (l.take s) hkind (fun _ => by rw [List.length_take]; omega) (fun hk => by have := htx hk rfl; rw [List.length_take]; omega) (by rw [List.length_take]; omega))
    unfold TokR at HT
    generalize ltoken k (l.take s) = T at *
    obtain ⟨t, c⟩ := T
    simp only at HT ⊢
    clear hsz htx hkind
    by_cases hc : c = 0
    · subst hc
      rw [if_neg (by omega)]
      rw [show errOf A 0 = Value.nilIface from rfl] at HT
      go_enter Tryd.func19, Tryd.ntmps19
      go_wp2_with fail
      rw [hw1] at HC
      refine HC.out.mono ?_
      rintro e w2 ⟨rfl, hb2⟩
      rw [← hw1] at hb2
      clear HC
      replace hk1 := hk1.kept hb2
      have hB2 := hb1.trans (hb2.mono hb1.size)
      clear hw1
      go_wp2_with fail
      refine (HT.out w2 (hL.below hB2)).mono ?_
      rintro e w3 ⟨rfl, hb3⟩
      replace hk1 := hk1.kept hb3
      have hB3 := hB2.trans (hb3.mono hB2.size)
      obtain ⟨r0, r1, r2, r3, r4⟩ := hk1.cells5
      have fr0 := hk1.frozen 0
      have fr1 := hk1.frozen 1
      have fr2 := hk1.frozen 2
      have fr3 := hk1.frozen 3
      have fr4 := hk1.frozen 4
      unfold tokV tokCells
      go_wp2_with fail
      refine bodyPost_ret (results_row2 rfl _ _ w.heap.size _ _ _ rfl ((((((((((hk1.set_ 0 _).set_ 1 _).set_ 2 _).set_ 3 _).set_ 4 _).set_ 0 _).set_ 1 _).set_ 2 _).set_ 3 _).set_ 4 _) Tryd.underlying34 (by kernel_rfl)) rfl ⟨rfl, ((((((((((hB3.setCell (p := ⟨w.heap.size, 0, none⟩) (Nat.le_refl _) _).setCell (p := ⟨w.heap.size, 1, none⟩) (Nat.le_refl _) _).setCell (p := ⟨w.heap.size, 2, none⟩) (Nat.le_refl _) _).setCell (p := ⟨w.heap.size, 3, none⟩) (Nat.le_refl _) _).setCell (p := ⟨w.heap.size, 4, none⟩) (Nat.le_refl _) _).setCell (p := ⟨w.heap.size, 0, none⟩) (Nat.le_refl _) _).setCell (p := ⟨w.heap.size, 1, none⟩) (Nat.le_refl _) _).setCell (p := ⟨w.heap.size, 2, none⟩) (Nat.le_refl _) _).setCell (p := ⟨w.heap.size, 3, none⟩) (Nat.le_refl _) _).setCell (p := ⟨w.heap.size, 4, none⟩) (Nat.le_refl _) _)⟩
    · obtain ⟨c, rfl⟩ : ∃ d, c = d + 1 := ⟨c - 1, by omega⟩
      rw [if_pos (by omega)]
      rw [show errOf A (c + 1) = errV A c from rfl] at HT
      have hne := neq_errV A c
      go_enter Tryd.func19, Tryd.ntmps19
      go_wp2_with fail
      rw [hw1] at HC
      refine HC.out.mono ?_
      rintro e w2 ⟨rfl, hb2⟩
      rw [← hw1] at hb2
      clear HC
      replace hk1 := hk1.kept hb2
      have hB2 := hb1.trans (hb2.mono hb1.size)
      clear hw1
      go_wp2_with fail
      refine (HT.out w2 (hL.below hB2)).mono ?_
      rintro e w3 ⟨rfl, hb3⟩
      replace hk1 := hk1.kept hb3
      have hB3 := hB2.trans (hb3.mono hB2.size)
      obtain ⟨r0, r1, r2, r3, r4⟩ := hk1.cells5
      have fr0 := hk1.frozen 0
      have fr1 := hk1.frozen 1
      have fr2 := hk1.frozen 2
      have fr3 := hk1.frozen 3
      have fr4 := hk1.frozen 4
      unfold tokV tokCells
      go_wp2_with fail
      refine bodyPost_ret (results_row2 rfl _ _ w.heap.size _ _ _ rfl ((((((((((hk1.set_ 0 _).set_ 1 _).set_ 2 _).set_ 3 _).set_ 4 _).set_ 0 _).set_ 1 _).set_ 2 _).set_ 3 _).set_ 4 _) Tryd.underlying34 (by kernel_rfl)) rfl ⟨rfl, ((((((((((hB3.setCell (p := ⟨w.heap.size, 0, none⟩) (Nat.le_refl _) _).setCell (p := ⟨w.heap.size, 1, none⟩) (Nat.le_refl _) _).setCell (p := ⟨w.heap.size, 2, none⟩) (Nat.le_refl _) _).setCell (p := ⟨w.heap.size, 3, none⟩) (Nat.le_refl _) _).setCell (p := ⟨w.heap.size, 4, none⟩) (Nat.le_refl _) _).setCell (p := ⟨w.heap.size, 0, none⟩) (Nat.le_refl _) _).setCell (p := ⟨w.heap.size, 1, none⟩) (Nat.le_refl _) _).setCell (p := ⟨w.heap.size, 2, none⟩) (Nat.le_refl _) _).setCell (p := ⟨w.heap.size, 3, none⟩) (Nat.le_refl _) _).setCell (p := ⟨w.heap.size, 4, none⟩) (Nat.le_refl _) _)⟩
  · obtain ⟨b, rfl⟩ : ∃ d, b = d + 1 := ⟨b - 1, by omega⟩
    rw [if_pos (by omega)]
    rw [show errOf A (b + 1) = errV A b from rfl] at HC
    have hne := neq_errV A b
    go_enter Tryd.func19, Tryd.ntmps19
    go_wp2_with fail
    rw [hw1] at HC
    refine HC.out.mono ?_
    rintro e w2 ⟨rfl, hb2⟩
    rw [← hw1] at hb2
    clear HC
    replace hk1 := hk1.kept hb2
    have hB2 := hb1.trans (hb2.mono hb1.size)
    clear hw1
    obtain ⟨r0, r1, r2, r3, r4⟩ := hk1.cells5
    have fr0 := hk1.frozen 0
    have fr1 := hk1.frozen 1
    have fr2 := hk1.frozen 2
    have fr3 := hk1.frozen 3
    have fr4 := hk1.frozen 4
    go_wp2_with fail
    refine bodyPost_ret (results_row2 rfl _ _ w.heap.size _ _ _ rfl (((((hk1.set_ 0 _).set_ 1 _).set_ 2 _).set_ 3 _).set_ 4 _) Tryd.underlying34 (by kernel_rfl)) rfl ⟨rfl, (((((hB2.setCell (p := ⟨w.heap.size, 0, none⟩) (Nat.le_refl _) _).setCell (p := ⟨w.heap.size, 1, none⟩) (Nat.le_refl _) _).setCell (p := ⟨w.heap.size, 2, none⟩) (Nat.le_refl _) _).setCell (p := ⟨w.heap.size, 3, none⟩) (Nat.le_refl _) _).setCell (p := ⟨w.heap.size, 4, none⟩) (Nat.le_refl _) _)⟩

end Go.Proofs.YtgpihhigajmldaaDoor
