/- The contracts of redlineref07.Ident and of its skip: is a text a word; where the next token begins. Condition: fewer than 1000000000 bytes. -/
import Derived.Test.YtgpihhigajmldaaDoorProg
import Derived.Test.YtgpihhigajmldaaDoorLexBytes
import Derived.Test.YtgpihhigajmldaaDoorLexSplit
namespace Go.Proofs.YtgpihhigajmldaaDoor
open Go.RowKit

theorem let_not_fig {b : UInt8} (h : lxLet b = true) : lxFig b = false := by
  unfold lxLet at h
  unfold lxFig
  simp only [Bool.or_eq_true, decide_eq_true_eq, beq_iff_eq] at h
  refine decide_eq_false ?_
  rcases h with (h | h) | rfl
  · omega
  · omega
  · decide
theorem lident_cons (b : UInt8) (r : List UInt8) : lident (b :: r) = (lxLet b && (decide (lspan lxIn (b :: r) = (b :: r).length) && decide ((b :: r).length ≤ 40))) := rfl
theorem lident_all {b : UInt8} {r : List UInt8} (h40 : (b :: r).length ≤ 40) (hf : lxFig b = false) (h : ∀ (i : Nat) (c : UInt8), i < (b :: r).length → (b :: r)[i]? = some c → lxIn c = true) : lident (b :: r) = true := by
  have h0 := h 0 b (by simp) (by simp)
  have hs : lspan lxIn (b :: r) = (b :: r).length := lspan_eq (Nat.le_refl _) h (fun c hc => by simp at hc)
  rw [lident_cons]
  unfold lxIn at h0
  rw [hf, Bool.or_false] at h0
  rw [h0, decide_eq_true hs, decide_eq_true h40]
  rfl
theorem lident_no {b : UInt8} {r : List UInt8} (i : Nat) (c : UInt8) (hc : (b :: r)[i]? = some c) (hn : lxIn c = false) : lident (b :: r) = false := by
  rw [lident_cons]
  have : ¬ lspan lxIn (b :: r) = (b :: r).length := fun e => by
    have := lspan_all (p := lxIn) (l := b :: r) (j := i) (b := c) (by rw [e]; exact (List.getElem?_eq_some_iff.1 hc).1) hc
    rw [hn] at this
    cases this
  rw [decide_eq_false this]
  simp

set_option maxRecDepth 100000 in
set_option maxHeartbeats 1000000 in
theorem refIdent_any (w : World) (l : List UInt8) (hl : l.length < 1000000000) :
    Calls Tryd.prog 11 #[.string (str l)] w (Ans (.bool (lident l)) w) := by
  have hz : (str l).size = l.length := strSize l
  cases l with
  | nil =>
    go_enter Tryd.func11, Tryd.ntmps11
    go_wp2_with fail
    go_ret
    exact ⟨rfl, rfl⟩
  | cons b r =>
    have hix : ∀ u, (Instr.index 9 (.string (str (b :: r))) (.int .i64 0)).run Tryd.prog u = .ok (.int .u8 (b.toNat : Int)) u := str_index (b :: r) 0 (by simp)
    have HF := Lib.hid (fun (u : World) c => ref_figure_any u c)
    have HE := Lib.hid (fun (u : World) c => ref_letter_any u c)
    obtain ⟨D, hD⟩ : ∃ D, D = b :: r := ⟨_, rfl⟩
    rw [← hD] at hl hz hix ⊢
    have hpos : 0 < D.length := by rw [hD]; simp
    have hp0 : ((D.length : Int) == 0) = false := beq_eq_false_iff_ne.2 (by omega)
    have hd0 : D[0]? = some b := by rw [hD]; rfl
    have HDD := Lib.hid hD
    by_cases h40 : 40 < D.length
    · have h40' : (40 : Int) < (D.length : Int) := by omega
      have e : lident D = false := by
        rw [hD, lident_cons]; rw [decide_eq_false (show ¬ (b :: r).length ≤ 40 by rw [← hD]; omega)]; simp
      rw [e]
      clear hD hd0
      go_enter Tryd.func11, Tryd.ntmps11
      go_wp2_with fail
      go_ret
      exact ⟨rfl, rfl⟩
    · have h40' : ¬ (40 : Int) < (D.length : Int) := by omega
      have H1 := HF.out w b
      cases hf : lxFig b
      · rw [hf] at H1
        have H2 := Lib.hid H1
        have hf' := Lib.hid hf
        have HDZ := Lib.hid hd0
        clear H1 hf hD hd0
        go_enter Tryd.func11, Tryd.ntmps11
        go_wp2_with fail
        refine H2.out.mono ?_
        rintro e w ⟨rfl, rfl⟩
        go_wp2_with fail
        go_loopg [3] D.length (fun g i wx => ∃ j : Nat, j + g = D.length ∧ i = .int .i64 (j : Int) ∧ wx = w ∧ Hid (∀ (k : Nat) (c : UInt8), k < j → D[k]? = some c → lxIn c = true))
        case atStart => exact ⟨0, by omega, rfl, rfl, Lib.hid (fun _ _ h => absurd h (Nat.not_lt_zero _))⟩
        case round =>
          obtain ⟨j, hj, rfl, rfl, HJ⟩ := hrel
          cases gk with
          | zero =>
            obtain rfl : j = D.length := by omega
            have hlt : ¬ ((D.length : Int) < (D.length : Int)) := by omega
            have e : lident D = true := by
              have h := HJ.out
              rw [HDD.out] at h ⊢
              exact lident_all (by rw [← HDD.out]; omega) hf'.out h
            rw [e]
            go_wp2_with fail
            go_ret
            exact ⟨rfl, rfl⟩
          | succ g =>
            have hlt : (j : Int) < (D.length : Int) := by omega
            have hjl : j < D.length := by omega
            have hix := str_index D j hjl
            obtain ⟨c, hc⟩ : ∃ c, D[j] = c := ⟨_, rfl⟩
            rw [hc] at hix
            have hc' : D[j]? = some c := by rw [List.getElem?_eq_getElem hjl, hc]
            have HC := Lib.hid hc'
            have H3 := HF.out wr c
            have H4 := HE.out wr c
            have HIN := Lib.hid (show lxIn c = (lxLet c || lxFig c) from rfl)
            have hnot := run_not
            clear hc hc'
            cases hb : lxLet c
            · cases hg : lxFig c
              · rw [hb] at H4
                rw [hg] at H3
                have e : lident D = false := by
                  have h := HC.out
                  rw [HDD.out] at h ⊢
                  exact lident_no j c h (by rw [HIN.out, hb, hg]; rfl)
                rw [e]
                have H3' := Lib.hid H3
                have H4' := Lib.hid H4
                clear H3 H4 hb hg e
                go_wp2_with fail
                refine H4'.out.mono ?_
                rintro e w ⟨rfl, rfl⟩
                go_wp2_with fail
                refine H3'.out.mono ?_
                rintro e w ⟨rfl, rfl⟩
                go_wp2_with fail
                go_ret
                exact ⟨rfl, rfl⟩
              · rw [hb] at H4
                rw [hg] at H3
                have hin : Hid (lxIn c = true) := Lib.hid (by rw [HIN.out, hb, hg]; rfl)
                have H3' := Lib.hid H3
                have H4' := Lib.hid H4
                clear H3 H4 hb hg
                go_wp2_with fail
                refine H4'.out.mono ?_
                rintro e w ⟨rfl, rfl⟩
                go_wp2_with fail
                refine H3'.out.mono ?_
                rintro e w ⟨rfl, rfl⟩
                go_wp2_with fail
                go_roundg g
                case measure => omega
                case rel => exact ⟨j + 1, by omega, by go_num, rfl, Lib.hid (fun k d hk hd => by
                  by_cases e : k = j
                  · subst e; rw [HC.out] at hd; cases hd; exact hin.out
                  · exact HJ.out k d (by omega) hd)⟩
            · rw [hb] at H4
              have hin : Hid (lxIn c = true) := Lib.hid (by rw [HIN.out, hb]; rfl)
              have H4' := Lib.hid H4
              clear H3 H4 hb
              go_wp2_with fail
              refine H4'.out.mono ?_
              rintro e w ⟨rfl, rfl⟩
              go_wp2_with fail
              go_roundg g
              case measure => omega
              case rel => exact ⟨j + 1, by omega, by go_num, rfl, Lib.hid (fun k d hk hd => by
                by_cases e : k = j
                · subst e; rw [HC.out] at hd; cases hd; exact hin.out
                · exact HJ.out k d (by omega) hd)⟩
      · rw [hf] at H1
        have H2 := Lib.hid H1
        have e : lident D = false := by
          rw [hD, lident_cons]
          cases hb : lxLet b
          · simp
          · rw [let_not_fig hb] at hf; cases hf
        rw [e]
        clear H1 hf hD hd0
        go_enter Tryd.func11, Tryd.ntmps11
        go_wp2_with fail
        refine H2.out.mono ?_
        rintro e w ⟨rfl, rfl⟩
        go_wp2_with fail
        go_ret
        exact ⟨rfl, rfl⟩
end Go.Proofs.YtgpihhigajmldaaDoor
