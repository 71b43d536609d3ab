/- The contract of redlineref07.skip: where the next token begins. Condition: fewer than 1000000000 bytes. -/
import Derived.Test.YtgpihhigajmldaaDoorProg
import Derived.Test.YtgpihhigajmldaaDoorLexRef
namespace Go.Proofs.YtgpihhigajmldaaDoor
open Go.RowKit

theorem lfirst_gap {l : List UInt8} {s : Nat} (h : lcut l = (0, s, 0)) : lfirst l = (⟨0, [], 0⟩, s, 0) := by
  unfold lfirst
  rw [h]
  simp [ltoken]
theorem lcut_blank {l : List UInt8} (h : lxGap (l.headD 0) = true) : lcut l = (0, lspan lxGap l, 0) := by
  unfold lcut; rw [if_pos h]
theorem lcut_line {l : List UInt8} (h : lxGap (l.headD 0) = false) (h2 : l.take 2 = [47, 47]) : lcut l = (0, lspan noLF l, 0) := by
  unfold lcut; rw [if_neg (by rw [h]; simp), if_pos h2]
theorem lcut_remark {l : List UInt8} (h : lxGap (l.headD 0) = false) (h2 : l.take 2 = [47, 42]) : lcut l = (0, lclosed 2 [42, 47] l) := by
  unfold lcut; rw [if_neg (by rw [h]; simp), if_neg (by rw [h2]; decide), if_pos h2]
theorem Lex.gapStep {l : List UInt8} {i : Nat} {ts : List (Tok × Nat)} {b ea s : Nat} (h : Lex l i ts b ea) (hi : i < l.length) (hc : lcut (l.drop i) = (0, s, 0)) : Lex l (i + s) ts b ea := by
  have hf := lfirst_gap hc
  rcases h.step with ⟨h1, _⟩ | ⟨_, h1, h2, _⟩ | ⟨_, _, _, h1⟩ | ⟨_, _, h1, _⟩
  · omega
  · rw [hf] at h1; exact absurd h1.symm h2
  · rw [hf] at h1; exact h1
  · rw [hf] at h1; exact absurd rfl h1
theorem Lex.blank {l : List UInt8} {i : Nat} {ts : List (Tok × Nat)} {b ea : Nat} (h : Lex l i ts b ea) (hi : i < l.length) (hg : lxGap ((l.drop i).headD 0) = true) : Lex l (i + 1) ts b ea := by
  have h1 := h.gapStep hi (lcut_blank hg)
  obtain ⟨x, r, hx⟩ : ∃ x r, l.drop i = x :: r := by
    cases hd : l.drop i with
    | nil => have := congrArg List.length hd; rw [List.length_drop] at this; simp at this; omega
    | cons x r => exact ⟨x, r, rfl⟩
  have hr : l.drop (i + 1) = r := by rw [← List.drop_drop, hx]; rfl
  rw [hx] at h1 hg
  rw [lspan_pos (by simpa using hg)] at h1
  by_cases h0 : lspan lxGap r = 0
  · rw [h0] at h1; exact h1
  · have hr0 : r ≠ [] := by rintro rfl; exact h0 rfl
    have hgr : lxGap ((l.drop (i + 1)).headD 0) = true := by
      rw [hr]
      cases r with
      | nil => exact absurd rfl hr0
      | cons y t =>
        cases hy : lxGap y with
        | true => simpa using hy
        | false => exact absurd (by simp [lspan, hy]) h0
    have hlt : i + 1 < l.length := by
      have := congrArg List.length hr
      rw [List.length_drop] at this
      have := List.length_pos_iff.2 hr0
      omega
    have hc := lcut_blank hgr
    have hf := lfirst_gap hc
    refine Lex.gap hlt (by rw [hf]) (by rw [hc]) ?_
    rw [hf, hr]
    rw [show i + 1 + lspan lxGap r = i + (lspan lxGap r + 1) by omega]
    exact h1
/-- What stands at a token's beginning: no gap. -/
def NoGap (l : List UInt8) : Prop := lxGap (l.headD 0) = false ∧ ¬ l.take 2 = [47, 47] ∧ ¬ l.take 2 = [47, 42]
/-- What skip answers. -/
def SkipR (w : World) (l : List UInt8) (i : Nat) (ts : List (Tok × Nat)) (b ea : Nat) (e : Ending) (w' : World) : Prop :=
  w' = w ∧ ∃ (nx : Nat) (ok : Bool), e = .returned (.tuple #[.int .i64 (nx : Int), .bool ok]) ∧ i ≤ nx ∧ nx ≤ l.length ∧ Lex l nx ts b ea ∧ (ok = false → nx < l.length ∧ (lfirst (l.drop nx)).2.2 = 9) ∧ (ok = true → nx = l.length ∨ nx < l.length ∧ NoGap (l.drop nx))

theorem gap_iff (b : UInt8) : lxGap b = true ↔ ((b.toNat : Int) = 32 ∨ (b.toNat : Int) = 9 ∨ (b.toNat : Int) = 13 ∨ (b.toNat : Int) = 10) := by
  unfold lxGap
  simp only [byte_eq, Bool.or_eq_true, decide_eq_true_eq]
  constructor
  · rintro (((h | h) | h) | h)
    · exact .inl h
    · exact .inr (.inl h)
    · exact .inr (.inr (.inl h))
    · exact .inr (.inr (.inr h))
  · rintro (h | h | h | h)
    · exact .inl (.inl (.inl h))
    · exact .inl (.inl (.inr h))
    · exact .inl (.inr h)
    · exact .inr h
theorem list47 : (ByteArray.mk #[47, 47]).toList = [47, 47] := str_toList [47, 47]
theorem list42 : (ByteArray.mk #[47, 42]).toList = [47, 42] := str_toList [47, 42]
theorem list24 : (ByteArray.mk #[42, 47]).toList = [42, 47] := str_toList [42, 47]
theorem list0 : (ByteArray.mk #[]).toList = [] := str_toList []

set_option maxRecDepth 100000 in
set_option maxHeartbeats 2000000 in
theorem skip_any (w : World) (l : List UInt8) (hl : l.length < 1000000000) (i : Nat) (hi : i ≤ l.length) (ts : List (Tok × Nat)) (b ea : Nat) (hX : Lex l i ts b ea) :
    Calls Tryd.prog 21 #[.string (str l), .int .i64 (i : Int)] w (SkipR w l i ts b ea) := by
  have hz : (str l).size = l.length := strSize l
  have hn := str_toList
  have e47 := list47
  have e42 := list42
  have e24 := list24
  have e0 := list0
  have HX0 := Lib.hid hX
  clear hX
  go_enter Tryd.func21, Tryd.ntmps21
  go_wp2_with fail
  go_loopg [1] (l.length - i) (fun g a wx => ∃ p : Nat, p + g = l.length ∧ i ≤ p ∧ a = .int .i64 (p : Int) ∧ wx = w ∧ Hid (Lex l p ts b ea))
  case atStart => exact ⟨i, by omega, Nat.le_refl _, rfl, rfl, HX0⟩
  case round =>
    clear HX0
    obtain ⟨p, hp, hip, rfl, rfl, HX⟩ := hrel
    cases gk with
    | zero =>
      obtain rfl : p = l.length := by omega
      have hlt : ¬ ((l.length : Int) < (l.length : Int)) := by omega
      go_wp2_with fail
      go_ret2
      exact ⟨rfl, l.length, true, rfl, by omega, Nat.le_refl _, HX.out, fun h => (by cases h), fun _ => .inl rfl⟩
    | succ g =>
      have hlt : (p : Int) < (l.length : Int) := by omega
      have hpl : p < l.length := by omega
      have hix := str_index l p hpl
      obtain ⟨x, hx⟩ : ∃ x, l[p] = x := ⟨_, rfl⟩
      rw [hx] at hix
      have hx' : l[p]? = some x := by rw [List.getElem?_eq_getElem hpl, hx]
      have hhd : (l.drop p).headD 0 = x := by
        rw [List.headD_eq_head?_getD, List.head?_drop, hx']
        rfl
      have HH := Lib.hid hhd
      have HXX := Lib.hid hx'
      have HG := Lib.hid (gap_iff x)
      clear hx hx' hhd
      obtain ⟨B, hB⟩ : ∃ B : Int, B = (x.toNat : Int) := ⟨_, rfl⟩
      rw [← hB] at hix
      have HB := Lib.hid hB
      clear hB
      by_cases hgap : B = 32 ∨ B = 9 ∨ B = 13 ∨ B = 10
      · have HX' := Lib.hid (HX.out.blank hpl (by rw [HH.out]; exact HG.out.2 (HB.out ▸ hgap)))
        rcases hgap with rfl | rfl | rfl | rfl
        all_goals
          go_wp2_with fail
          go_roundg g
          case measure => omega
          case rel => exact ⟨p + 1, by omega, by omega, by go_num, rfl, HX'⟩
      · have hgf : Hid (lxGap ((l.drop p).headD 0) = false) := Lib.hid (by
          rw [HH.out]
          cases h : lxGap x with
          | false => rfl
          | true => exact absurd (HB.out ▸ HG.out.1 h) hgap)
        have n1 : (B == 32) = false := beq_eq_false_iff_ne.2 fun h => hgap (.inl h)
        have n2 : (B == 9) = false := beq_eq_false_iff_ne.2 fun h => hgap (.inr (.inl h))
        have n3 : (B == 13) = false := beq_eq_false_iff_ne.2 fun h => hgap (.inr (.inr (.inl h)))
        have n4 : (B == 10) = false := beq_eq_false_iff_ne.2 fun h => hgap (.inr (.inr (.inr h)))
        clear hgap
        by_cases h2 : p + 1 < l.length
        · have h2' : (p : Int) + 1 < (l.length : Int) := by omega
          obtain ⟨P, hP⟩ : ∃ P, P = (l.drop p).take 2 := ⟨_, rfl⟩
          have hmid : ∀ u, (Instr.slice 9 (.string (str l)) (some (.int .i64 (p : Int))) (some (.int .i64 ((p : Int) + 2))) none).run Tryd.prog u = .ok (.string (str P)) u := fun u => by
            have h := str_mid l p (p + 2) (by omega) (by omega) u
            rw [show p + 2 - p = 2 by omega, ← hP, show ((p + 2 : Nat) : Int) = (p : Int) + 2 by omega] at h
            exact h
          have HP := Lib.hid hP
          clear hP
          by_cases hq : P = [47, 47]
          · subst hq
            have hfirst : 0 < lspan noLF (l.drop p) := lspan_first (by rw [List.length_drop]; omega) (by
              have h := HP.out
              have h0 : (l.drop p)[0]? = some 47 := by
                have := congrArg (fun m => m[0]?) h
                rw [List.getElem?_take_of_lt (by decide)] at this
                exact this.symm
              rw [List.headD_eq_head?_getD, List.head?_eq_getElem?, h0]
              rfl)
            have HS := Lib.hid (fun (s : Nat) (hs : lspan noLF (l.drop p) = s) => HX.out.gapStep hpl (s := s) (by rw [lcut_line hgf.out HP.out.symm, hs]))
            clear HX
            go_wp2_with fail
            go_loopg [1] (l.length - p) (fun g1 a wx => ∃ q j : Nat, q + g1 = l.length ∧ Hid (q = p + j) ∧ a = .int .i64 (q : Int) ∧ wx = wr ∧ Hid (∀ (k : Nat) (c : UInt8), k < j → (l.drop p)[k]? = some c → noLF c = true))
            case atStart => exact ⟨p, 0, by omega, Lib.hid rfl, rfl, rfl, Lib.hid (fun _ _ h => absurd h (Nat.not_lt_zero _))⟩
            case round =>
              obtain ⟨q, j, hqg, HQ, rfl, rfl, HJ⟩ := hrel
              by_cases hql : q < l.length
              · have hqi : (q : Int) < (l.length : Int) := by omega
                have hqx := str_index l q hql
                obtain ⟨c, hc⟩ : ∃ c, l[q] = c := ⟨_, rfl⟩
                rw [hc] at hqx
                have HC := Lib.hid (show (l.drop p)[j]? = some c by rw [List.getElem?_drop, ← HQ.out, List.getElem?_eq_getElem hql, hc])
                have HN := Lib.hid (show noLF c = !(decide ((c.toNat : Int) = 10)) by unfold noLF; rw [bne, byte_eq]; rfl)
                clear hc
                generalize (c.toNat : Int) = C at *
                by_cases h10 : C = 10
                · have HJ' := Lib.hid (HS.out j (lspan_eq (by rw [List.length_drop]; have := HQ.out; omega) HJ.out (fun d hd => by rw [HC.out] at hd; cases hd; rw [HN.out, h10]; rfl)))
                  have hj0 : 0 < j := by
                    rw [lspan_eq (by rw [List.length_drop]; have := HQ.out; omega) HJ.out (fun d hd => by rw [HC.out] at hd; cases hd; rw [HN.out, h10]; rfl)] at hfirst
                    exact hfirst
                  have HPQ := Lib.hid (show p + j = q from HQ.out.symm)
                  have hpq : p < q := by have := HPQ.out; omega
                  subst h10
                  go_wp2_with fail
                  go_roundg (l.length - q)
                  case measure => omega
                  case rel => exact ⟨q, by omega, by omega, rfl, rfl, Lib.hid (HPQ.out ▸ HJ'.out)⟩
                · have HJ' := Lib.hid (show ∀ (k : Nat) (d : UInt8), k < j + 1 → (l.drop p)[k]? = some d → noLF d = true from fun k d hk hd => by
                    by_cases e : k = j
                    · subst e; rw [HC.out] at hd; cases hd; rw [HN.out, decide_eq_false h10]; rfl
                    · exact HJ.out k d (by omega) hd)
                  go_wp2_with fail
                  go_roundg (l.length - (q + 1))
                  case measure => omega
                  case rel => exact ⟨q + 1, j + 1, by omega, Lib.hid (by rw [HQ.out]; omega), by go_num, rfl, HJ'⟩
              · have hqi : ¬ (q : Int) < (l.length : Int) := by omega
                have hsp : lspan noLF (l.drop p) = j := lspan_eq (by rw [List.length_drop]; have := HQ.out; omega) HJ.out (fun d hd => by
                  have h1 := (List.getElem?_eq_some_iff.1 hd).1
                  rw [List.length_drop] at h1
                  have := HQ.out
                  omega)
                have HJ' := Lib.hid (HS.out j hsp)
                have hj0 : 0 < j := by rw [hsp] at hfirst; exact hfirst
                have HPQ := Lib.hid (show p + j = q from HQ.out.symm)
                have hpq : p < q := by have := HPQ.out; omega
                clear hsp
                go_wp2_with fail
                go_roundg (l.length - q)
                case measure => omega
                case rel => exact ⟨q, by omega, by omega, rfl, rfl, Lib.hid (HPQ.out ▸ HJ'.out)⟩
          have hq1 : (P == [47, 47]) = false := by simpa using hq
          by_cases hr : P = [47, 42]
          · subst hr
            have HS := Lib.hid (fun (s : Nat) (hs : lclosed 2 [42, 47] (l.drop p) = (s, 0)) => HX.out.gapStep hpl (s := s) (by rw [lcut_remark hgf.out HP.out.symm, hs]))
            have HBAD := Lib.hid (fun (hs : lclosed 2 [42, 47] (l.drop p) = (0, 9)) => show (lfirst (l.drop p)).2.2 = 9 by
              unfold lfirst
              rw [lcut_remark hgf.out HP.out.symm, hs]
              rfl)
            clear hq hq1
            go_wp2_with fail
            go_loopg [8] (l.length - (p + 2)) (fun g1 a wx => ∃ q j : Nat, q + g1 = l.length ∧ Hid (q = p + 2 + j) ∧ a = .int .i64 (q : Int) ∧ wx = wr ∧ Hid (Lib.NoOcc ((l.drop p).drop 2) [42, 47] j))
            case atStart => exact ⟨p + 2, 0, by omega, Lib.hid rfl, by go_num, rfl, Lib.hid (Lib.NoOcc.zero _ _)⟩
            case round =>
              obtain ⟨q, j, hqg, HQ, rfl, rfl, HJ⟩ := hrel
              have hdl : ((l.drop p).drop 2).length = l.length - p - 2 := by rw [List.length_drop, List.length_drop]
              have hjq : p + 2 + j = q := HQ.out.symm
              have HJQ := Lib.hid hjq
              have hpq : p < q := by omega
              clear hjq
              by_cases hql : q + 1 < l.length
              · have hqi : (q : Int) + 1 < (l.length : Int) := by omega
                obtain ⟨P2, hP2⟩ : ∃ P2, P2 = (l.drop q).take 2 := ⟨_, rfl⟩
                have hmid2 : ∀ u, (Instr.slice 9 (.string (str l)) (some (.int .i64 (q : Int))) (some (.int .i64 ((q : Int) + 2))) none).run Tryd.prog u = .ok (.string (str P2)) u := fun u => by
                  have h := str_mid l q (q + 2) (by omega) (by omega) u
                  rw [show q + 2 - q = 2 by omega, ← hP2, show ((q + 2 : Nat) : Int) = (q : Int) + 2 by omega] at h
                  exact h
                have hocc : Lib.occAt ((l.drop p).drop 2) [42, 47] j = (P2 == [42, 47]) := by
                  rw [Lib.occAt_iff_take _ _ _ (by rw [hdl]; have := HJQ.out; simp only [List.length_cons, List.length_nil]; omega), List.drop_drop, List.drop_drop, show p + (2 + j) = q by have := HJQ.out; omega, hP2]
                  rfl
                clear hP2
                by_cases h24 : P2 = [42, 47]
                · subst h24
                  have hidx : Lib.index ((l.drop p).drop 2) [42, 47] = (j : Int) := Lib.index_hit HJ.out (by rw [hdl]; have := HJQ.out; omega) (by rw [hocc]; rfl)
                  have HJ' := Lib.hid (HS.out (2 + j + 2) (by
                    unfold lclosed
                    rw [hidx, if_neg (by omega), Int.toNat_natCast]
                    rfl))
                  clear hocc hidx
                  go_wp2_with fail
                  go_roundg (l.length - (q + 2))
                  case measure => omega
                  case rel => exact ⟨q + 2, by omega, by omega, by go_num, rfl, Lib.hid (by have h := HJ'.out; rw [show p + (2 + j + 2) = q + 2 by have := HJQ.out; omega] at h; exact h)⟩
                · have hb24 : (P2 == [42, 47]) = false := by simpa using h24
                  have hn24 : (P2 != [42, 47]) = true := by simpa using h24
                  have HJ' := Lib.hid (HJ.out.succ (by rw [hocc]; exact hb24))
                  clear hocc h24
                  go_wp2_with fail
                  go_roundg (l.length - (q + 1))
                  case measure => omega
                  case rel => exact ⟨q + 1, j + 1, by omega, Lib.hid (by rw [HQ.out]; omega), by go_num, rfl, HJ'⟩
              · have hqi : ¬ (q : Int) + 1 < (l.length : Int) := by omega
                have hge : (l.length : Int) ≤ (q : Int) + 1 := by omega
                have HBB := Lib.hid (HBAD.out (by
                  unfold lclosed
                  rw [Lib.index_past (by simp) HJ.out (by rw [hdl]; have := HJQ.out; simp only [List.length_cons, List.length_nil]; omega), if_pos (by decide)]))
                go_wp2_with fail
                go_ret2
                exact ⟨rfl, p, false, rfl, hip, by omega, HX.out, fun _ => ⟨hpl, HBB.out⟩, fun h => (by cases h)⟩
          have hr1 : (P == [47, 42]) = false := by simpa using hr
          go_wp2_with fail
          go_ret2
          exact ⟨rfl, p, true, rfl, hip, by omega, HX.out, fun h => (by cases h), fun _ => .inr ⟨hpl, hgf.out, by rw [← HP.out]; exact hq, by rw [← HP.out]; exact hr⟩⟩
        · have h2' : ¬ (p : Int) + 1 < (l.length : Int) := by omega
          have hlen : ∀ a c : UInt8, ¬ (l.drop p).take 2 = [a, c] := fun a c h => by
            have h := congrArg List.length h
            rw [List.length_take, List.length_drop] at h
            simp only [List.length_cons, List.length_nil] at h
            omega
          go_wp2_with fail
          go_ret2
          exact ⟨rfl, p, true, rfl, hip, by omega, HX.out, fun h => (by cases h), fun _ => .inr ⟨hpl, hgf.out, hlen _ _, hlen _ _⟩⟩
end Go.Proofs.YtgpihhigajmldaaDoor
