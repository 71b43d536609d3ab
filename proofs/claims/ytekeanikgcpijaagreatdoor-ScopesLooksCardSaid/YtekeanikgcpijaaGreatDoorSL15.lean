/- Part 15 of what the last text of this claim is proved by: walks over the program, and the math behind them. Conditions: as each theorem says. -/
import Derived.Test.YtekeanikgcpijaaGreatDoorSL14
import Derived.Test.YtekeanikgcpijaaGreatDoorProg
namespace Go.Proofs.YtekeanikgcpijaaGreatDoor
open Go Go.Lib
theorem tkIs_lt {l : List Tk} {p k : Nat} {t : List UInt8} (h : tkIs l p k t = true) : p < l.length := by
 rcases Nat.lt_or_ge p l.length with h' | h'
 ·exact h'
 ·unfold tkIs at h; rw [List.getElem?_eq_none h'] at h; cases h
theorem sWant_ok {l : List Tk} {k : Nat} {t : List UInt8} {p q : Nat} (h : sWant l k t p = .ok q) : q = p + 1 ∧ p < l.length := by
 unfold sWant at h
 split at h
 ·rename_i h1; injection h with h; exact ⟨h.symm, tkIs_lt h1⟩
 ·cases h
theorem sName_ok {l : List Tk} {p q : Nat} {x : Tk} (h : sName l p = .ok (x, q)) : q = p + 1 ∧ p < l.length ∧ l[p]? = some x ∧ x.1.k = 1 := by
 unfold sName at h
 split at h
 ·cases h
 ·rename_i y hy
  split at h
  ·rename_i h1
   injection h with h
   injection h with h2 h3
   subst h2
   exact ⟨h3.symm, (List.getElem?_eq_some_iff.1 hy).1, hy, h1⟩
  ·cases h
theorem sNumber_ok {l : List Tk} {p q : Nat} {x : Int} (h : sNumber l p = .ok (x, q)) : q = p + 1 ∧ p < l.length ∧ ∃ y, l[p]? = some y ∧ x = (y.1.n : Int) := by
 unfold sNumber at h
 split at h
 ·cases h
 ·rename_i y hy
  split at h
  ·injection h with h
   injection h with h2 h3
   exact ⟨h3.symm, (List.getElem?_eq_some_iff.1 hy).1, y, hy, h2.symm⟩
  ·cases h
theorem sText_ok {l : List Tk} {p q : Nat} {x : List UInt8} (h : sText l p = .ok (x, q)) : q = p + 1 ∧ p < l.length := by
 unfold sText at h
 split at h
 ·cases h
 ·rename_i y hy
  split at h
  ·injection h with h
   injection h with h2 h3
   exact ⟨h3.symm, (List.getElem?_eq_some_iff.1 hy).1⟩
  ·cases h
theorem sDots_ok {l : List Tk} : ∀ (n : Nat) (s : List UInt8) (p : Nat) {t : List UInt8} {q : Nat}, sDots l n s p = .ok (t, q) → p < q ∧ q ≤ l.length
 | 0, s, p, t, q, h => by cases h
 | n + 1, s, p, t, q, h => by
  unfold sDots at h
  split at h
  ·cases h
  rename_i x r hx
  have h1 := sName_ok hx
  split at h
  ·have := sDots_ok n _ _ h
   omega
  ·injection h with h
   injection h with h2 h3
   omega
theorem sDotted_ok {l : List Tk} {typ : Bool} {p : Nat} {t : List UInt8} {q : Nat} (h : sDotted l typ p = .ok (t, q)) : p < q ∧ q ≤ l.length := by
 unfold sDotted at h
 split at h
 ·have := sDots_ok _ _ _ h
  omega
 ·exact sDots_ok _ _ _ h
theorem sOption_ok {l : List Tk} {f g : Fld} {p q : Nat} (h : sOption l f p = .ok (g, q)) : p < q ∧ q ≤ l.length := by
 unfold sOption at h
 split at h
 ·split at h
  ·cases h
  rename_i r hr
  have h1 := sWant_ok hr
  split at h
  ·rename_i h2
   have := tkIs_lt h2
   injection h with h
   injection h with h3 h4
   omega
  split at h
  ·rename_i h2
   have := tkIs_lt h2
   injection h with h
   injection h with h3 h4
   omega
  ·cases h
 split at h
 ·split at h
  ·cases h
  rename_i r hr
  have h1 := sWant_ok hr
  split at h
  ·cases h
  rename_i x s hs
  have h2 := sName_ok hs
  injection h with h
  injection h with h3 h4
  omega
 ·cases h
theorem sOpts_ok {l : List Tk} : ∀ (n : Nat) (f : Fld) (p : Nat) {g : Fld} {q : Nat}, sOpts l n f p = .ok (g, q) → p < q ∧ q ≤ l.length
 | 0, f, p, g, q, h => by cases h
 | n + 1, f, p, g, q, h => by
  unfold sOpts at h
  split at h
  ·cases h
  rename_i x r hx
  have h1 := sOption_ok hx
  split at h
  ·have := sOpts_ok n _ _ h
   omega
  split at h
  ·cases h
  rename_i s hs
  have h2 := sWant_ok hs
  split at h
  ·cases h
  rename_i u hu
  have h3 := sWant_ok hu
  injection h with h
  injection h with h4 h5
  omega
theorem sOptions_ok {l : List Tk} {f g : Fld} {p q : Nat} (h : sOptions l f p = .ok (g, q)) : p < q ∧ q ≤ l.length := by
 unfold sOptions at h
 split at h
 ·exact sOpts_ok _ _ _ h
 split at h
 ·cases h
 rename_i s hs
 have h2 := sWant_ok hs
 injection h with h
 injection h with h4 h5
 omega
theorem sRest_ok {l : List Tk} {f g : Fld} {p q : Nat} (h : sRest l f p = .ok (g, q)) : p < q ∧ q ≤ l.length := by
 unfold sRest at h
 split at h
 ·cases h
 rename_i x r hx
 split at h
 ·cases h
 rename_i s hs
 split at h
 ·cases h
 rename_i n u hu
 have h1 := sName_ok hx
 have h2 := sWant_ok hs
 have h3 := sNumber_ok hu
 have h4 := sOptions_ok h
 omega
theorem sField_ok {l : List Tk} {p q : Nat} {a b : Int} {g : Fld} (h : sField l p a b = .ok (g, q)) : p < q ∧ q ≤ l.length := by
 unfold sField at h
 split at h
 ·cases h
 rename_i x r hx
 have h1 := sDotted_ok hx
 have h4 := sRest_ok h
 omega
theorem sMapped_ok {l : List Tk} {p q : Nat} {g : Fld} (h : sMapped l p = .ok (g, q)) : p < q ∧ q ≤ l.length := by
 unfold sMapped at h
 split at h
 ·cases h
 rename_i r1 h1
 split at h
 ·cases h
 rename_i x r2 h2
 split at h
 ·cases h
 rename_i r3 h3
 split at h
 ·cases h
 rename_i y r4 h4
 split at h
 ·cases h
 rename_i r5 h5
 have g1 := sWant_ok h1
 have g2 := sName_ok h2
 have g3 := sWant_ok h3
 have g4 := sDotted_ok h4
 have g5 := sWant_ok h5
 have g6 := sRest_ok h
 omega
theorem sSemis_le {l : List Tk} : ∀ (n p : Nat), p ≤ l.length → p ≤ sSemis l n p ∧ sSemis l n p ≤ l.length
 | 0, p, h => ⟨Nat.le_refl _, h⟩
 | n + 1, p, h => by
  unfold sSemis
  split
  ·rename_i h1
   have := tkIs_lt h1
   have := sSemis_le (l := l) n (p + 1) (by omega)
   omega
  ·exact ⟨Nat.le_refl _, h⟩
theorem semis_le {l : List Tk} {p : Nat} (h : p ≤ l.length) : p ≤ semis l p ∧ semis l p ≤ l.length := sSemis_le _ _ h
theorem semis_more {l : List Tk} {p : Nat} (h : tkIs l p 4 [59] = true) : semis l p = semis l (p + 1) := by
 have := tkIs_lt h
 unfold semis
 obtain ⟨n, hn⟩ : ∃ n, l.length - p = n + 1 := ⟨l.length - p - 1, by omega⟩
 rw [hn, show l.length - (p + 1) = n by omega, sSemis, if_pos h]
theorem semis_done {l : List Tk} {p : Nat} (h : tkIs l p 4 [59] = false) : semis l p = p := by
 unfold semis
 cases l.length - p with
 | zero => rfl
 | succ n => rw [sSemis, if_neg (by rw [h]; decide)]
theorem sHead_ok {l : List Tk} {p q : Nat} {x : Tk} (h : sHead l p = .ok (x, q)) : p < q ∧ q ≤ l.length := by
 unfold sHead at h
 split at h
 ·cases h
 rename_i y r hx
 split at h
 ·cases h
 rename_i s hs
 have h1 := sName_ok hx
 have h2 := sWant_ok hs
 injection h with h
 injection h with h4 h5
 omega
theorem sValue_ok {l : List Tk} {p q : Nat} {x : Val} (h : sValue l p = .ok (x, q)) : p < q ∧ q ≤ l.length := by
 unfold sValue at h
 split at h
 ·cases h
 rename_i y r hx
 split at h
 ·cases h
 rename_i s hs
 have h1 := sName_ok hx
 have h2 := sWant_ok hs
 split at h
 ·split at h
  ·cases h
  rename_i n u hu
  split at h
  ·cases h
  rename_i v hv
  have h3 := sNumber_ok hu
  have h4 := sWant_ok hv
  injection h with h
  injection h with h5 h6
  omega
 ·split at h
  ·cases h
  rename_i n u hu
  split at h
  ·cases h
  rename_i v hv
  have h3 := sNumber_ok hu
  have h4 := sWant_ok hv
  injection h with h
  injection h with h5 h6
  omega
theorem sVals_ok {l : List Tk} : ∀ (n : Nat) (vs : List Val) (p : Nat) {ws : List Val} {q : Nat}, p ≤ l.length → sVals l n vs p = .ok (ws, q) → p < q ∧ q ≤ l.length
 | 0, vs, p, ws, q, hp, h => by cases h
 | n + 1, vs, p, ws, q, hp, h => by
  have hs := semis_le hp
  simp only [sVals] at h
  split at h
  ·rename_i h1
   have := tkIs_lt h1
   split at h
   ·cases h
   ·injection h with h
    injection h with h2 h3
    omega
  split at h
  ·cases h
  rename_i v r hv
  have h1 := sValue_ok hv
  have := sVals_ok n _ _ (by omega) h
  omega
theorem sEnum_ok {l : List Tk} {p q : Nat} {x : Enm} (h : sEnum l p = .ok (x, q)) : p < q ∧ q ≤ l.length := by
 unfold sEnum at h
 split at h
 ·cases h
 rename_i y r hx
 split at h
 ·cases h
 rename_i vs s hs
 have h1 := sHead_ok hx
 have h2 := sVals_ok _ _ _ h1.2 hs
 injection h with h
 injection h with h4 h5
 omega
theorem sFlds_ok {l : List Tk} {a : Int} : ∀ (n : Nat) (vs : List Fld) (p : Nat) {ws : List Fld} {q : Nat}, p ≤ l.length → sFlds l a n vs p = .ok (ws, q) → p < q ∧ q ≤ l.length
 | 0, vs, p, ws, q, hp, h => by cases h
 | n + 1, vs, p, ws, q, hp, h => by
  have hs := semis_le hp
  simp only [sFlds] at h
  split at h
  ·rename_i h1
   have := tkIs_lt h1
   split at h
   ·cases h
   ·injection h with h
    injection h with h2 h3
    omega
  split at h
  ·cases h
  rename_i v r hv
  have h1 := sField_ok hv
  have := sFlds_ok n _ _ (by omega) h
  omega
theorem sOneof_ok {l : List Tk} {p q : Nat} {a : Int} {x : List UInt8 × List Fld} (h : sOneof l p a = .ok (x, q)) : p < q ∧ q ≤ l.length := by
 unfold sOneof at h
 split at h
 ·cases h
 rename_i y r hx
 split at h
 ·cases h
 rename_i vs s hs
 have h1 := sHead_ok hx
 have h2 := sFlds_ok _ _ _ h1.2 hs
 injection h with h
 injection h with h4 h5
 omega
theorem sRange_ok {l : List Tk} {p q : Nat} {x : Int × Int} (h : sRange l p = .ok (x, q)) : p < q ∧ q ≤ l.length := by
 unfold sRange at h
 split at h
 ·cases h
 rename_i n r hx
 have h1 := sNumber_ok hx
 split at h
 ·rename_i ht
  have := tkIs_lt ht
  split at h
  ·rename_i hm
   have := tkIs_lt hm
   injection h with h
   injection h with h4 h5
   omega
  ·split at h
   ·cases h
   rename_i m s hs
   have h2 := sNumber_ok hs
   injection h with h
   injection h with h4 h5
   omega
 ·injection h with h
  injection h with h4 h5
  omega
theorem sRanges_ok {l : List Tk} : ∀ (n : Nat) (s : List (Int × Int)) (p : Nat) {t : List (Int × Int)} {q : Nat}, sRanges l n s p = .ok (t, q) → p < q ∧ q ≤ l.length
 | 0, s, p, t, q, h => by cases h
 | n + 1, s, p, t, q, h => by
  unfold sRanges at h
  split at h
  ·cases h
  rename_i x r hx
  have h1 := sRange_ok hx
  split at h
  ·rename_i hc
   have := tkIs_lt hc
   have := sRanges_ok n _ _ h
   omega
  split at h
  ·cases h
  rename_i u hu
  have h3 := sWant_ok hu
  injection h with h
  injection h with h4 h5
  omega
theorem sTexts_ok {l : List Tk} : ∀ (n : Nat) (s : List (List UInt8)) (p : Nat) {t : List (List UInt8)} {q : Nat}, sTexts l n s p = .ok (t, q) → p < q ∧ q ≤ l.length
 | 0, s, p, t, q, h => by cases h
 | n + 1, s, p, t, q, h => by
  unfold sTexts at h
  split at h
  ·cases h
  rename_i x r hx
  have h1 := sText_ok hx
  split at h
  ·rename_i hc
   have := tkIs_lt hc
   have := sTexts_ok n _ _ h
   omega
  split at h
  ·cases h
  rename_i u hu
  have h3 := sWant_ok hu
  injection h with h
  injection h with h4 h5
  omega
theorem sReserved_ok {l : List Tk} {p q : Nat} {x : List (Int × Int) × List (List UInt8)} (h : sReserved l p = .ok (x, q)) : p < q ∧ q ≤ l.length := by
 unfold sReserved at h
 split at h
 ·split at h
  ·cases h
  rename_i ts r hr
  have h1 := sTexts_ok _ _ _ hr
  injection h with h
  injection h with h4 h5
  omega
 ·split at h
  ·cases h
  rename_i ts r hr
  have h1 := sRanges_ok _ _ _ hr
  injection h with h
  injection h with h4 h5
  omega
def Steps (l : List Tk) {α : Type} (f : Nat → Ans8 (α × Nat)) : Prop := ∀ p x q, f p = .ok (x, q) → p < q ∧ q ≤ l.length
theorem sPart_ok {l : List Tk} {sub : Nat → Ans8 (Msg × Nat)} (hsub : Steps l sub) {m m' : Msg} {p q : Nat} (h : sPart l sub m p = .ok (m', q)) : p < q ∧ q ≤ l.length := by
 simp only [sPart] at h
 split at h
 ·split at h
  ·cases h
  rename_i k r hr
  have h1 := hsub _ _ _ hr
  injection h with h
  injection h with h4 h5
  omega
 split at h
 ·split at h
  ·cases h
  rename_i k r hr
  have h1 := sEnum_ok hr
  injection h with h
  injection h with h4 h5
  omega
 split at h
 ·split at h
  ·cases h
  rename_i k r hr
  have h1 := sOneof_ok hr
  injection h with h
  injection h with h4 h5
  omega
 split at h
 ·split at h
  ·cases h
  rename_i k r hr
  have h1 := sReserved_ok hr
  injection h with h
  injection h with h4 h5
  omega
 split at h
 ·cases h
 rename_i k r hr
 injection h with h
 injection h with h4 h5
 split at hr
 ·have := sField_ok hr; omega
 split at hr
 ·have := sField_ok hr; omega
 split at hr
 ·have := sMapped_ok hr; omega
 ·have := sField_ok hr; omega
theorem sBody_ok {l : List Tk} {sub : Nat → Ans8 (Msg × Nat)} (hsub : Steps l sub) : ∀ (n : Nat) (m : Msg) (p : Nat) {m' : Msg} {q : Nat}, p ≤ l.length → sBody l sub n m p = .ok (m', q) → p < q ∧ q ≤ l.length
 | 0, m, p, m', q, hp, h => by cases h
 | n + 1, m, p, m', q, hp, h => by
  have hs := semis_le hp
  simp only [sBody] at h
  split at h
  ·rename_i h1
   have := tkIs_lt h1
   injection h with h
   injection h with h2 h3
   omega
  split at h
  ·cases h
  rename_i v r hv
  have h1 := sPart_ok hsub hv
  have := sBody_ok hsub n _ _ (by omega) h
  omega
theorem sMessage_ok (l : List Tk) : ∀ d, Steps l (sMessage l d)
 | 0, p, x, q, h => by
  unfold sMessage at h
  split at h <;> cases h
 | d + 1, p, x, q, h => by
  unfold sMessage at h
  split at h
  ·cases h
  rename_i y r hx
  split at h
  ·cases h
  rename_i s hs
  have h1 := sName_ok hx
  have h2 := sWant_ok hs
  have h3 := sBody_ok (sMessage_ok l d) _ _ _ (by omega) h
  omega
end Go.Proofs.YtekeanikgcpijaaGreatDoor
namespace Go.Proofs.YtekeanikgcpijaaGreatDoor
open Go.RowKit
def tkD (x : Tk) : List Dat := [.cell (.int .i64 (x.1.k : Int)), .cell (.string (str x.1.t)), .cell (.int .i64 (x.1.n : Int)), .cell (.int .i64 (x.2.1 : Int)), .cell (.int .i64 (x.2.2 : Int))]
theorem tkD_len (x : Tk) : (tkD x).length = 5 := rfl
abbrev tksP (l : List Tk) : Part := .one (.row 5 l.length (l.flatMap tkD))
abbrev txsP (l : List (List UInt8)) : Part := .one (.row 1 l.length (l.flatMap textDats))
abbrev iP (z : Int) : Part := .one (.cell (.int .i64 z))
abbrev sP (t : List UInt8) : Part := .one (.cell (.string (str t)))
abbrev bP (b : Bool) : Part := .one (.cell (.bool b))
def tk0 : Tk := (⟨0, [], 0⟩, 0, 0)
def tkAt (l : List Tk) (p : Nat) : Tk := l.getD p tk0
theorem tkAt_lt {l : List Tk} {p : Nat} (h : p < l.length) : l[p]? = some (tkAt l p) := by
 unfold tkAt
 rw [List.getD_eq_getElem?_getD, List.getElem?_eq_getElem h]
 rfl
theorem tkAt_of {l : List Tk} {p : Nat} {x : Tk} (h : l[p]? = some x) : tkAt l p = x := by
 unfold tkAt
 rw [List.getD_eq_getElem?_getD, h]
 rfl
theorem int_eq (a b : Nat) : decide ((a : Int) = (b : Int)) = decide (a = b) := by
 by_cases h : a = b
 ·simp [h]
 ·rw [decide_eq_false h, decide_eq_false (by omega)]
theorem int_lt (a b : Nat) : decide ((a : Int) < (b : Int)) = decide (a < b) := by
 by_cases h : a < b
 ·rw [decide_eq_true h, decide_eq_true (by omega)]
 ·rw [decide_eq_false h, decide_eq_false (by omega)]
abbrev tkP (x : Tk) : Part := .many (tkD x)
theorem not_t {b : Bool} (h : (!b) = true) : b = false := by cases b <;> simp_all
theorem not_f {b : Bool} (h : (!b) = false) : b = true := by cases b <;> simp_all
end Go.Proofs.YtekeanikgcpijaaGreatDoor
namespace Go.Proofs.YtekeanikgcpijaaGreatDoor
open Go.RowKit
def kindT : List UInt8 → Nat
 | [] => 4
 | c :: _ => if 97 ≤ c.toNat ∧ c.toNat ≤ 122 then 1 else 4
def sWants (l : List Tk) : List (List UInt8) → Nat → Ans8 Nat
 | [], p => .ok p
 | t :: ts, p =>
  match sWant l (kindT t) t p with
  | .error e => .error e
  | .ok q => sWants l ts q
theorem sWants_one (l : List Tk) (t : List UInt8) (p : Nat) : sWants l [t] p = sWant l (kindT t) t p := by
 unfold sWants
 cases sWant l (kindT t) t p <;> rfl
end Go.Proofs.YtekeanikgcpijaaGreatDoor
namespace Go.Proofs.YtekeanikgcpijaaGreatDoor
open Go.RowKit
def Res {β : Type} (r : Ans8 β) (v : β) (a b : Nat) : Prop := (b = 0 ∧ a = 0 ∧ r = .ok v) ∨ (b ≠ 0 ∧ r = .error (a, b))
theorem Res.bad {β : Type} {r : Ans8 β} {v : β} {a b : Nat} (hr : Res r v a b) (h : (!decide ((b : Int) = 0)) = true) : b ≠ 0 ∧ r = .error (a, b) := by
 have h1 : b ≠ 0 := by
  intro e
  subst e
  simp at h
 rcases hr with ⟨e, _⟩ | h2
 ·exact absurd e h1
 ·exact h2
theorem Res.ok {β : Type} {r : Ans8 β} {v : β} {a b : Nat} (hr : Res r v a b) (h : (!decide ((b : Int) = 0)) = false) : a = 0 ∧ b = 0 ∧ r = .ok v := by
 have h1 : b = 0 := by
  simpa using h
 rcases hr with ⟨e1, e2, e3⟩ | h2
 ·exact ⟨e2, e1, e3⟩
 ·exact absurd h1 h2.1
theorem Res.good {β : Type} {r : Ans8 β} {v : β} (h : r = .ok v) : Res r v 0 0 := .inl ⟨rfl, rfl, h⟩
theorem EFx.mono {P : Program} {gls : List (Nat × List Value)} {f : FuncId} {ps : List Part} {Y Z : IV → Prop} (h : EFx P gls f ps Y) (hi : ∀ y, Y y → Z y) : EFx P gls f ps Z := fun w D vs a b c => (h w D vs a b c).mono fun _ _ ⟨v, y, h1, h2, h3⟩ => ⟨v, y, h1, hi y h2, h3⟩
structure TksOk (l : List Tk) : Prop where
 len : l.length ≤ 100000
 txt : ∀ p, (tkAt l p).1.t.length ≤ 100000
 num : ∀ p, (tkAt l p).1.n ≤ 1000000000000
end Go.Proofs.YtekeanikgcpijaaGreatDoor
namespace Go.Proofs.YtekeanikgcpijaaGreatDoor
open Go.RowKit
abbrev pD (l : List Tk) (q : Nat) : List Dat := [.row 5 l.length (l.flatMap tkD), .cell (.int .i64 (q : Int))]
abbrev pX (l : List Tk) (q : Nat) : Bx := ⟨106, [.part (tksP l), .is (.int .i64 (q : Int))]⟩
abbrev pB (l : List Tk) (q : Nat) : BL := [(1, pX l q)]
def ws : List (List UInt8) := [[115, 121, 110, 116, 97, 120], [61], [59], [112, 97, 99, 107, 97, 103, 101], [109, 101, 115, 115, 97, 103, 101], [101, 110, 117, 109], [111, 110, 101, 111, 102], [114, 101, 115, 101, 114, 118, 101, 100], [114, 101, 112, 101, 97, 116, 101, 100], [111, 112, 116, 105, 111, 110, 97, 108], [109, 97, 112], [60], [62], [44], [91], [93], [112, 97, 99, 107, 101, 100], [107, 101, 121], [116, 114, 117, 101], [102, 97, 108, 115, 101], [123], [125], [45], [116, 111], [109, 97, 120], [46]]
structure PTk (l : List Tk) : Prop extends TksOk l where
 fit : ∀ p t, t ∈ ws → (decide (((tkAt l p).1.k : Int) = 3) || !decide ((tkAt l p).1.t = t)) = !tkIs l p (kindT t) t
 ne : ∀ p, (tkAt l p).1.k = 1 → (tkAt l p).1.t ≠ []
abbrev Er := TypeId × Value
abbrev eV (x : Er) : Value := .iface x.1 x.2
abbrev gE (E8 E9 : Er) : List (Nat × List Value) := [(9, [eV E8]), (10, [eV E9])]
abbrev fltD (l : List Tk) (p : Nat) (v : Er) : Dat := .ifc 96 (.ptr 98 [.cell (.int .i64 ((tkAt l p).2.1 : Int)), .cell (.int .i64 ((tkAt l p).2.2 : Int)),   .cell (eV v)])
abbrev fltP (l : List Tk) (p : Nat) (v : Er) : Part := .one (fltD l p v)
abbrev nilP : Part := .one (.cell .nilIface)
set_option maxRecDepth 100000 in
theorem ahead_r (gls : List (Nat × List Value)) (l : List Tk) (hl : TksOk l) (q n : Nat) (hq : q ≤ 200000) (hn : n ≤ 200000) : ER Tryz.prog gls 74 (pD l q) [iP n] (tkCells (tkAt l (q + n))) := by
 refine eg_enter 30 Tryz.func74 rfl rfl rfl fun w D bor mb => ?_
 try refine e_fl ?_
 have hll := hl.len
 refine e_list ?_
 refine e_alloc 4 [.is (.int .i64 0), .is (.string ⟨#[]⟩), .is (.int .i64 0), .is (.int .i64 0), .is (.int .i64 0)] rfl rfl rfl rfl zr_100 (fun w D M V => ⟨rfl, fun j x v h1 h2 => cfit_is _ h1 h2 rfl⟩) rfl rfl rfl rfl ?_
 refine e_nil ?_
 try refine e_fl ?_
 refine e_draw mixed (by kernel_rfl) (w_mv rfl rfl rfl rfl rfl (w_op rfl rfl rfl (s_nil_ref rfl (kn rfl)) (w_op rfl rfl rfl (s_faddr_ref rfl (kn rfl) off_106_1) (w_op rfl rfl rfl (s_load1_ref rfl (kn rfl) one_3) (w_mv rfl rfl rfl rfl rfl (w_op rfl rfl rfl (s_bin rfl (kn rfl) (kn rfl) (v_add64 (by first | omega | (dsimp only; omega) | omega))) (w_mv rfl rfl rfl rfl rfl (w_op rfl rfl rfl (s_nil_ref rfl (kn rfl)) (w_op rfl rfl rfl (s_faddr_ref rfl (kn rfl) off_106_0) (w_op rfl rfl rfl (s_load1_ref rfl (kn rfl) one_63) (w_op rfl rfl rfl (s_len rfl (kn rfl) sle_63) (w_op rfl rfl rfl (s_bin rfl (kn rfl) (kn rfl) v_geq) .nil)))))))))))) ?_
 try refine e_fl ?_
 refine e_cond rfl (fun h => ?_) (fun h => ?_)
 ·have h1 : tkAt l (q + n) = tk0 := by
   have := of_decide_eq_true h
   unfold tkAt
   rw [List.getD_eq_getElem?_getD, List.getElem?_eq_none (by omega)]
   rfl
  rw [h1]
  try refine e_fl ?_
  refine e_list ?_
  refine l_op (s_build (ds := [_, _, _, _, _]) [] rfl trivial rfl pl_100 zr_100 (fun w D => .cons (.cell _) (.cons (.cell _) (.cons (.cell _) (.cons (.cell _) (.cons (.cell _) (.nil _ _)))))) rfl) ?_
  refine e_storew rfl rfl rfl (kn rfl) rfl (kn rfl) rfl rfl sz_100 ?_
  refine e_nil ?_
  try refine e_fl ?_
  exact e_returnx ([]) ([]) rfl (.cell rfl rfl rfl agg_100 sz_100 rfl (.nil)) (Imp.refl _) trivial trivial (⟨rfl, rfl, rfl⟩)
 have h1 : l[q + n]? = some (tkAt l (q + n)) := tkAt_lt (by have := of_decide_eq_false h; omega)
 try refine e_fl ?_
 refine e_draw_mix [(4, _)] mixed (by kernel_rfl) (WalkM.op rfl rfl rfl (s_move rfl (kn rfl)) (WalkM.op rfl rfl rfl (s_nil_ref rfl (kn rfl)) (WalkM.op rfl rfl rfl (s_faddr_ref rfl (kn rfl) off_106_0) (WalkM.op rfl rfl rfl (s_load1_ref rfl (kn rfl) one_63) (WalkM.op rfl rfl rfl (s_move rfl (kn rfl)) (WalkM.op rfl rfl rfl (s_nil_ref rfl (kn rfl)) (WalkM.op rfl rfl rfl (s_faddr_ref rfl (kn rfl) off_106_1) (WalkM.op rfl rfl rfl (s_load1_ref rfl (kn rfl) one_3) (WalkM.op rfl rfl rfl (s_move rfl (kn rfl)) (WalkM.op rfl rfl rfl (s_bin rfl (kn rfl) (kn rfl) (v_add64 (by first | omega | (dsimp only; omega) | omega))) (WalkM.op rfl rfl rfl (s_index rfl (kn rfl) (kn rfl) (by omega) h1 tkD_len sle_63 esz_63 rfl) (WalkM.op rfl rfl rfl (s_loadn_ref rfl (kn rfl) agg_100 sz_100) (WalkM.stw rfl rfl rfl (kn rfl) rfl rfl (kn rfl) rfl rfl rfl sz_100 (WalkM.nil)))))))))))))) rfl ?_
 try refine e_fl ?_
 exact e_returnx ([]) ([]) rfl (.cell rfl rfl rfl agg_100 sz_100 rfl (.nil)) (Imp.refl _) trivial trivial (⟨rfl, rfl, rfl⟩)
set_option maxRecDepth 100000 in
theorem fault_ef (gls : List (Nat × List Value)) (l : List Tk) (p : Nat) (v : Er) : EF Tryz.prog gls 73 [tkP (tkAt l p),   .one (.cell (eV v))] (.part (fltP l p v)) := by
 refine ef_enter 13 Tryz.func73 rfl rfl rfl fun w D => ?_
 try refine e_fl ?_
 refine e_list ?_
 refine e_box 2 rfl rfl rfl rfl (kn rfl) rfl rfl rfl rfl ?_
 refine l_as ?_
 refine e_nil ?_
 try refine e_fl ?_
 refine e_list ?_
 refine l_op (s_faddr_box rfl (kn rfl) off_100_3) ?_
 refine l_op (s_load1_box rfl (kn rfl) rfl rfl one_3) ?_
 refine l_op (s_faddr_box rfl (kn rfl) off_100_4) ?_
 refine l_op (s_load1_box rfl (kn rfl) rfl rfl one_3) ?_
 refine l_mv ?_
 refine l_op (s_build (ds := [_, _, _]) [(0, _), (1, _), (2, _)] rfl ⟨rfl, (kn rfl), ⟨rfl, (kn rfl), ⟨rfl, (kn rfl), trivial⟩⟩⟩ rfl pl_98 zr_98 (fun w D => .cons (.cell _) (.cons (.cell _) (.cons (.cell _) (.nil _ _)))) rfl) ?_
 refine e_box 11 rfl rfl rfl rfl (kn rfl) rfl rfl rfl rfl ?_
 refine e_data 11 11 rfl rfl rfl ?_
 refine e_list_op rfl rfl rfl (s_iface rfl (kn rfl) (by kernel_rfl)) ?_
 refine l_as ?_
 refine e_nil ?_
 try refine e_fl ?_
 exact e_return rfl rfl (.tmp (kn rfl) (.nil)) (Imp.refl _) rfl
set_option maxRecDepth 100000 in
theorem misfit_g (E8 E9 : Er) (l : List Tk) (hl : TksOk l) (q : Nat) (hq : q ≤ 200000) : EG Tryz.prog (gE E8 E9) 77 [.box 1 0] (pB l q) [] (fun y B1 R1 => y = .part (fltP l q E9) ∧ B1 = pB l q ∧ R1 = []) := by
 refine eg_enter 7 Tryz.func77 rfl rfl rfl fun w D bor mb => ?_
 try refine e_fl ?_
 refine e_plain (w_as rfl rfl rfl rfl rfl .nil) ?_
 try refine e_fl ?_
 refine e_draw mixed (by kernel_rfl) (w_mv rfl rfl rfl rfl rfl (w_op rfl rfl rfl (s_callr rfl (by kernel_rfl) (ahead_r _ l hl q 0 hq (by omega)) (kn rfl) rfl rfl ⟨kn rfl, trivial⟩) (w_op rfl rfl rfl (s_load_gl rfl (kn rfl) (List.mem_cons_of_mem _ (List.mem_singleton.2 rfl)) one_28) (w_op rfl rfl rfl (s_call rfl (by kernel_rfl) (fault_ef _ l q E9) ⟨(kn rfl), ⟨(kn rfl), trivial⟩⟩) (w_as rfl rfl rfl rfl rfl .nil))))) ?_
 try refine e_fl ?_
 exact e_returnx (pB l q) ([]) rfl (.tmp (kn rfl) (.nil)) (Imp.refl _) ⟨s_b, trivial⟩ trivial (⟨rfl, rfl, rfl⟩)
def takesOk (l : List Tk) : List (List UInt8) → Nat → Bool
 | [], _ => true
 | t :: ts, q => tkIs l q (kindT t) t && takesOk l ts (q + 1)
set_option maxRecDepth 100000 in
theorem take_g (gls : List (Nat × List Value)) (l : List Tk) (hl : PTk l) (ts : List (List UInt8)) (hts : ts.length ≤ 100) (hws : ∀ t ∈ ts, t ∈ ws) (q : Nat) (hq : q ≤ 150000) :
  EG Tryz.prog gls 45 [.box 1 0, .part (txsP ts)] (pB l q) [] (fun y B1 R1 => y = .part (bP (takesOk l ts q)) ∧ B1 = pB l (if takesOk l ts q then q + ts.length else q) ∧ R1 = []) := by
 refine eg_enter 37 Tryz.func45 rfl rfl rfl fun w D bor mb => ?_
 try refine e_fl ?_
 refine e_plain (w_as rfl rfl rfl rfl rfl .nil) ?_
 try refine e_fl ?_
 refine e_plain (w_mv rfl rfl rfl rfl rfl (w_op rfl rfl rfl (s_len rfl (kn rfl) sle_45) (w_mv rfl rfl rfl rfl rfl .nil))) ?_
 try refine e_fl ?_
 refine e_loop (ι := { i : Nat // i ≤ ts.length ∧ takesOk l ts q = takesOk l (ts.drop i) (q + i) })
  (fun i => [(0, .box 1 0), (1, .part (txsP ts)), (8, .part (txsP ts)), (9, .is (.int .i64 (ts.length : Int))), (10, .is (.int .i64 (i.1 : Int)))])
  (fun _ => pB l q) (fun _ => []) (fun i => ts.length - i.1) ⟨0, by omega, by simp⟩
  (fun K => e_sub ⟨s_t, s_t, s_t, s_t, s_t, trivial⟩ ⟨s_b, trivial⟩ trivial) ?_
 rintro ⟨i, hi, hw⟩
 dsimp only at hi hw ⊢
 try refine e_fl ?_
 refine e_plain (w_op rfl rfl rfl (s_bin rfl (kn rfl) (kn rfl) v_lss) .nil) ?_
 try refine e_fl ?_
 refine e_cond rfl (fun h => ?_) (fun h => ?_)
 ·have hlt : i < ts.length := by have := of_decide_eq_true h; omega
  obtain ⟨t, ht⟩ : ∃ t, ts[i]? = some t := ⟨_, List.getElem?_eq_getElem hlt⟩
  have hd : ts.drop i = t :: ts.drop (i + 1) := by
   rw [List.drop_eq_getElem_cons hlt]
   congr 1
   rw [List.getElem?_eq_getElem hlt] at ht
   exact Option.some.inj ht
  have hfit := hl.fit (q + i) t (hws t (List.mem_of_getElem? ht))
  rw [hd, takesOk] at hw
  try refine e_fl ?_
  refine e_plain (w_mv rfl rfl rfl rfl rfl (w_op rfl rfl rfl (s_index rfl (kn rfl) (kn rfl) (by omega) ht textDats_len sle_45 esz_45 rfl) (w_op rfl rfl rfl (s_load1_ref rfl (kn rfl) one_9) (w_as rfl rfl rfl rfl rfl (w_as rfl rfl rfl rfl rfl .nil))))) ?_
  try refine e_fl ?_
  refine e_list ?_
  refine l_mv ?_
  refine l_mv ?_
  refine l_op (s_callr rfl (by kernel_rfl) (ahead_r _ l hl.toTksOk q i (by omega) (by omega)) (kn rfl) rfl rfl ⟨kn rfl, trivial⟩) ?_
  refine e_alloc 7 [.is (.int .i64 0), .is (.string ⟨#[]⟩), .is (.int .i64 0), .is (.int .i64 0), .is (.int .i64 0)] rfl rfl rfl rfl zr_100 (fun w D M V => ⟨rfl, fun j x v h1 h2 => cfit_is _ h1 h2 rfl⟩) rfl rfl rfl rfl ?_
  refine e_storew rfl rfl rfl (kn rfl) rfl (kn rfl) rfl rfl sz_100 ?_
  refine e_nil ?_
  try refine e_fl ?_
  refine e_plain (w_op rfl rfl rfl (s_faddr_box rfl (kn rfl) off_100_0) (w_op rfl rfl rfl (s_load1_box rfl (kn rfl) rfl rfl one_3) (w_op rfl rfl rfl (s_bin rfl (kn rfl) (kn rfl) v_eql) (w_mv rfl rfl rfl rfl rfl (Walk.gd _ rfl rfl rfl (fun h => s_faddr_box rfl (kn rfl) off_100_1) (Walk.gd _ rfl rfl rfl (fun h => s_load1_box rfl (kn_opt rfl h) rfl rfl one_9) (Walk.gd _ rfl rfl rfl (fun h => s_move rfl (kn rfl)) (Walk.gd _ rfl rfl rfl (fun h => s_bin rfl (kn_opt rfl h) (kn_opt rfl h) (v_sneq)) (w_op rfl rfl rfl (s_or rfl (kn rfl) (fun hb => kn_opt rfl hb)) .nil))))))))) ?_
  try refine e_fl ?_
  refine e_cond rfl (fun h1 => ?_) (fun h1 => ?_)
  ·have h2 : tkIs l (q + i) (kindT t) t = false := not_t (hfit.symm.trans h1)
   have h3 : takesOk l ts q = false := by rw [hw, h2]; rfl
   try refine e_fl ?_
   refine e_plain (w_as rfl rfl rfl rfl rfl .nil) ?_
   try refine e_fl ?_
   exact e_returnx (pB l q) ([]) rfl (.tmp (kn rfl) (.nil)) (Imp.refl _) ⟨s_b, trivial⟩ trivial (⟨by rw [h3]; rfl, by rw [h3]; rfl, rfl⟩)
  have h2 : tkIs l (q + i) (kindT t) t = true := not_f (hfit.symm.trans h1)
  rw [h2, Bool.true_and] at hw
  try refine e_fl ?_
  refine e_plain (w_op rfl rfl rfl (s_bin rfl (kn rfl) (kn rfl) (v_add64 (by first | omega | (dsimp only; omega) | omega))) (w_mv rfl rfl rfl rfl rfl .nil)) ?_
  try refine e_fl ?_
  refine e_again ⟨i + 1, by omega, hw⟩ (by dsimp only; omega) (fun K => e_sub ⟨s_t, s_t, s_t, s_t, s_t, trivial⟩ ⟨s_b, trivial⟩ trivial)
 obtain rfl : i = ts.length := by have := of_decide_eq_false h; omega
 rw [List.drop_length, takesOk] at hw
 try refine e_fl ?_
 refine e_list ?_
 refine l_mv ?_
 refine l_op (s_nil_box rfl (kn rfl)) ?_
 refine l_op (s_faddr_box rfl (kn rfl) off_106_1) ?_
 refine l_op (s_load1_box rfl (kn rfl) rfl rfl one_3) ?_
 refine l_mv ?_
 refine l_op (s_len rfl (kn rfl) sle_45) ?_
 refine l_op (s_bin rfl (kn rfl) (kn rfl) (v_add64 (by first | omega | (dsimp only; omega) | omega))) ?_
 refine l_op (s_nil_box rfl (kn rfl)) ?_
 refine l_op (s_faddr_box rfl (kn rfl) off_106_1) ?_
 refine e_store1 rfl rfl rfl (kn rfl) rfl (kn rfl) rfl rfl sz_3 rfl ?_
 refine e_nil ?_
 try refine e_fl ?_
 refine e_plain (w_as rfl rfl rfl rfl rfl .nil) ?_
 try refine e_fl ?_
 exact e_returnx (pB l (q + ts.length)) ([]) rfl (.tmp (kn rfl) (.nil)) (Imp.refl _) ⟨s_b, trivial⟩ trivial (⟨by rw [hw]; rfl, by rw [hw]; rfl, rfl⟩)
theorem PY.tidy {l : List Tk} {q z : Nat} {p : Part} {y : IV} {B1 : BL} {R1 : RL} (h1 : y = .part p) (h2 : B1 = pB l z) (h3 : R1 = []) : Tidy (pB l q) [] y B1 R1 := by
 subst h1 h2 h3
 exact ⟨rfl, rfl, rfl, rfl⟩
theorem take1 (gls : List (Nat × List Value)) (l : List Tk) (hl : PTk l) (t : List UInt8) (k : Nat) (hk : kindT t = k) (hws : t ∈ ws) (q : Nat) (hq : q ≤ 150000) :
  EG Tryz.prog gls 45 [.box 1 0, .part (txsP [t])] (pB l q) [] (fun y B1 R1 => y = .part (bP (tkIs l q k t)) ∧ B1 = pB l (if tkIs l q k t then q + 1 else q) ∧ R1 = []) := by
 have h := take_g gls l hl [t] (by simp) (by simpa using hws) q hq
 have e : takesOk l [t] q = tkIs l q k t := by rw [takesOk, takesOk, hk, Bool.and_true]
 rw [e] at h
 exact h
set_option maxRecDepth 100000 in
theorem clone_ef (gls : List (Nat × List Value)) (t : List UInt8) (ht : t.length ≤ 140737488351232) : EF Tryz.prog gls 50 [sP t] (.part (sP t)) := fun w D vs _ _ hp => by
 obtain ⟨v, rfl, hv⟩ : ∃ v, vs = [v] ∧ v = .string (str t) := by
  match vs, hp with
  | [v], h => exact ⟨v, rfl, h.1.cell_eq⟩
 subst hv
 exact (clone_any w t ht).mono fun e w' ⟨h1, h2⟩ => ⟨_, _, h1, rfl, h2, fun _ _ => .cell _⟩
def TY (l : List Tk) (E9 : Er) (k q : Nat) (y : IV) (B1 : BL) (R1 : RL) : Prop :=
 ((tkAt l q).1.k ≠ k ∧ y = .tup [tkP tk0, fltP l q E9] ∧ B1 = pB l q ∧ R1 = []) ∨ ((tkAt l q).1.k = k ∧ y = .tup [tkP (tkAt l q), nilP] ∧ B1 = pB l (q + 1) ∧ R1 = [])
theorem TY.tidy {l : List Tk} {E9 : Er} {k q z : Nat} (y : IV) (B1 : BL) (R1 : RL) (h : TY l E9 k q y B1 R1) : Tidy (pB l z) [] y B1 R1 := by
 rcases h with ⟨_, rfl, rfl, rfl⟩ | ⟨_, rfl, rfl, rfl⟩ <;> exact ⟨rfl, rfl, rfl, rfl⟩
set_option maxRecDepth 100000 in
theorem token_g (E8 E9 : Er) (l : List Tk) (hl : TksOk l) (q k : Nat) (hq : q ≤ 150000) : EG Tryz.prog (gE E8 E9) 72 [.box 1 0, .part (iP k)] (pB l q) [] (TY l E9 k q) := by
 refine eg_enter 28 Tryz.func72 rfl rfl rfl fun w D bor mb => ?_
 try refine e_fl ?_
 have htx := hl.txt q
 refine e_list ?_
 refine e_alloc 4 [.is (.int .i64 0), .is (.string ⟨#[]⟩), .is (.int .i64 0), .is (.int .i64 0), .is (.int .i64 0)] rfl rfl rfl rfl zr_100 (fun w D M V => ⟨rfl, fun j x v h1 h2 => cfit_is _ h1 h2 rfl⟩) rfl rfl rfl rfl ?_
 refine l_as ?_
 refine e_nil ?_
 try refine e_fl ?_
 refine e_list ?_
 refine l_mv ?_
 refine l_op (s_callr rfl (by kernel_rfl) (ahead_r _ l hl q 0 (by omega) (by omega)) (kn rfl) rfl rfl ⟨kn rfl, trivial⟩) ?_
 refine e_alloc 6 [.is (.int .i64 0), .is (.string ⟨#[]⟩), .is (.int .i64 0), .is (.int .i64 0), .is (.int .i64 0)] rfl rfl rfl rfl zr_100 (fun w D M V => ⟨rfl, fun j x v h1 h2 => cfit_is _ h1 h2 rfl⟩) rfl rfl rfl rfl ?_
 refine e_storew rfl rfl rfl (kn rfl) rfl (kn rfl) rfl rfl sz_100 ?_
 refine e_nil ?_
 try refine e_fl ?_
 refine e_plain (w_op rfl rfl rfl (s_faddr_box rfl (kn rfl) off_100_0) (w_op rfl rfl rfl (s_load1_box rfl (kn rfl) rfl rfl one_3) (w_mv rfl rfl rfl rfl rfl (w_op rfl rfl rfl (s_bin rfl (kn rfl) (kn rfl) v_neq) .nil)))) ?_
 try refine e_fl ?_
 refine e_cond rfl (fun h => ?_) (fun h => ?_)
 ·have h1 : ¬ (tkAt l q).1.k = k := fun e => by
   rw [← e] at h
   simp at h
  try refine e_fl ?_
  refine e_list ?_
  refine l_op (s_build (ds := [_, _, _, _, _]) [] rfl trivial rfl pl_100 zr_100 (fun w D => .cons (.cell _) (.cons (.cell _) (.cons (.cell _) (.cons (.cell _) (.cons (.cell _) (.nil _ _)))))) rfl) ?_
  refine l_mv ?_
  refine e_calli rfl rfl rfl rfl (by kernel_rfl) (misfit_g E8 E9 l hl q (by omega)) ⟨rfl, trivial⟩ trivial ⟨(kn rfl), trivial⟩ (fun _ _ _ h => PY.tidy h.1 h.2.1 h.2.2) ?_
  rintro _ _ _ ⟨rfl, rfl, rfl⟩
  refine e_storew rfl rfl rfl (kn rfl) rfl (kn rfl) rfl rfl sz_100 ?_
  refine l_as ?_
  refine e_nil ?_
  try refine e_fl ?_
  exact e_returnx (pB l q) ([]) rfl (.cell rfl rfl rfl agg_100 sz_100 rfl (.tmp (kn rfl) (.nil))) (Imp.refl _) ⟨s_b, trivial⟩ trivial (.inl ⟨h1, rfl, rfl, rfl⟩)
 have h1 : (tkAt l q).1.k = k := by
  have h2 : decide (((tkAt l q).1.k : Int) = (k : Int)) = true := not_f h
  have := of_decide_eq_true h2
  omega
 try refine e_fl ?_
 refine e_list ?_
 refine l_mv ?_
 refine l_op (s_nil_box rfl (kn rfl)) ?_
 refine l_op (s_faddr_box rfl (kn rfl) off_106_1) ?_
 refine l_op (s_load1_box rfl (kn rfl) rfl rfl one_3) ?_
 refine l_op (s_bin rfl (kn rfl) (kn rfl) (v_add64 (by first | omega | (dsimp only; omega) | omega))) ?_
 refine l_op (s_nil_box rfl (kn rfl)) ?_
 refine l_op (s_faddr_box rfl (kn rfl) off_106_1) ?_
 refine e_store1 rfl rfl rfl (kn rfl) rfl (kn rfl) rfl rfl sz_3 rfl ?_
 refine e_nil ?_
 try refine e_fl ?_
 refine e_list ?_
 refine l_op (s_faddr_box rfl (kn rfl) off_100_1) ?_
 refine l_op (s_load1_box rfl (kn rfl) rfl rfl one_9) ?_
 refine l_op (s_call rfl (by kernel_rfl) (clone_ef _ (tkAt l q).1.t (by omega)) ⟨(kn rfl), trivial⟩) ?_
 refine l_op (s_faddr_box rfl (kn rfl) off_100_1) ?_
 refine e_store1 rfl rfl rfl (kn rfl) rfl (kn rfl) rfl rfl sz_9 rfl ?_
 refine e_nil ?_
 try refine e_fl ?_
 refine e_list ?_
 refine l_op (s_loadn_box (ds := [_, _, _, _, _]) 5 rfl (kn rfl) rfl rfl agg_100 sz_100 rfl) ?_
 refine e_storew rfl rfl rfl (kn rfl) rfl (kn rfl) rfl rfl sz_100 ?_
 refine l_as ?_
 refine e_nil ?_
 try refine e_fl ?_
 exact e_returnx (pB l (q + 1)) ([]) rfl (.cell rfl rfl rfl agg_100 sz_100 rfl (.tmp (kn rfl) (.nil))) (Imp.refl _) ⟨s_b, trivial⟩ trivial (.inr ⟨h1, rfl, rfl, rfl⟩)
abbrev erv (E8 E9 : Er) (b : Nat) : Er := if b = 8 then E8 else E9
def PE (l : List Tk) (E8 E9 : Er) (r : Ans8 Nat) (y : IV) (B1 : BL) (R1 : RL) : Prop :=
 (∃ a b z, r = .error (a, b) ∧ y = .part (fltP l a (erv E8 E9 b)) ∧ B1 = pB l z ∧ R1 = []) ∨ (∃ z, r = .ok z ∧ y = .part nilP ∧ B1 = pB l z ∧ R1 = [])
theorem PE.tidy {l : List Tk} {E8 E9 : Er} {r : Ans8 Nat} {q : Nat} (y : IV) (B1 : BL) (R1 : RL) (h : PE l E8 E9 r y B1 R1) : Tidy (pB l q) [] y B1 R1 := by
 rcases h with ⟨a, b, z, _, rfl, rfl, rfl⟩ | ⟨z, _, rfl, rfl, rfl⟩ <;> exact ⟨rfl, rfl, rfl, rfl⟩
set_option maxRecDepth 100000 in
theorem want_g (E8 E9 : Er) (l : List Tk) (hl : PTk l) (ts : List (List UInt8)) (hts : ts.length ≤ 100) (hws : ∀ t ∈ ts, t ∈ ws) (q : Nat) (hq : q ≤ 120000) :
  EG Tryz.prog (gE E8 E9) 47 [.box 1 0, .part (txsP ts)] (pB l q) [] (PE l E8 E9 (sWants l ts q)) := by
 refine eg_enter 21 Tryz.func47 rfl rfl rfl fun w D bor mb => ?_
 try refine e_fl ?_
 have hll := hl.len
 refine e_plain (w_as rfl rfl rfl rfl rfl .nil) ?_
 try refine e_fl ?_
 refine e_plain (w_mv rfl rfl rfl rfl rfl (w_op rfl rfl rfl (s_len rfl (kn rfl) sle_45) (w_mv rfl rfl rfl rfl rfl .nil))) ?_
 try refine e_fl ?_
 refine e_loop (ι := { i : Nat × Nat // i.1 ≤ ts.length ∧ i.2 ≤ 120000 + i.1 ∧ sWants l ts q = sWants l (ts.drop i.1) i.2 })
  (fun i => [(0, .box 1 0), (7, .part (txsP ts)), (8, .is (.int .i64 (ts.length : Int))), (9, .is (.int .i64 (i.1.1 : Int)))])
  (fun i => pB l i.1.2) (fun _ => []) (fun i => ts.length - i.1.1) ⟨(0, q), by simp, by dsimp only; omega, rfl⟩
  (fun K => e_sub ⟨s_t, s_t, s_t, s_t, trivial⟩ ⟨s_b, trivial⟩ trivial) ?_
 rintro ⟨⟨i, p⟩, hi, hp, hw⟩
 dsimp only at hi hp hw ⊢
 try refine e_fl ?_
 refine e_plain (w_op rfl rfl rfl (s_bin rfl (kn rfl) (kn rfl) v_lss) .nil) ?_
 try refine e_fl ?_
 refine e_cond rfl (fun h => ?_) (fun h => ?_)
 ·have hlt : i < ts.length := by have := of_decide_eq_true h; omega
  obtain ⟨t, ht⟩ : ∃ t, ts[i]? = some t := ⟨_, List.getElem?_eq_getElem hlt⟩
  have hd : ts.drop i = t :: ts.drop (i + 1) := by
   rw [List.drop_eq_getElem_cons hlt]
   congr 1
   rw [List.getElem?_eq_getElem hlt] at ht
   exact Option.some.inj ht
  rw [hd, sWants] at hw
  try refine e_fl ?_
  refine e_plain (w_op rfl rfl rfl (s_index rfl (kn rfl) (kn rfl) (by omega) ht textDats_len sle_45 esz_45 rfl) (w_op rfl rfl rfl (s_load1_ref rfl (kn rfl) one_9) (w_as rfl rfl rfl rfl rfl .nil))) ?_
  try refine e_fl ?_
  refine e_list ?_
  refine l_mv ?_
  refine l_mv ?_
  refine l_op (s_buildSlice (ds := [_]) [(0, _)] rfl ⟨rfl, (kn rfl), trivial⟩ rfl sl_45 sz_9 zr_9 (fun w D => .cons (.cell _) (.nil _ _)) rfl rfl rfl rfl rfl) ?_
  refine e_calli rfl rfl rfl rfl (by kernel_rfl) (take1 _ l hl t _ rfl (hws t (List.mem_of_getElem? ht)) p (by omega)) ⟨rfl, trivial⟩ trivial ⟨(kn rfl), ⟨(kn rfl), trivial⟩⟩ (fun _ _ _ h => PY.tidy h.1 h.2.1 h.2.2) ?_
  rintro _ _ _ ⟨rfl, rfl, rfl⟩
  refine l_op (s_not rfl (kn rfl)) ?_
  refine e_nil ?_
  try refine e_fl ?_
  refine e_cond rfl (fun h => ?_) (fun h => ?_)
  ·have h1 := not_t h
   have h2 : sWant l (kindT t) t p = .error (p, 9) := by unfold sWant; rw [h1]; rfl
   rw [h2] at hw
   rw [h1]
   try refine e_fl ?_
   refine e_list ?_
   refine l_mv ?_
   refine e_calli rfl rfl rfl rfl (by kernel_rfl) (misfit_g E8 E9 l hl.toTksOk p (by omega)) ⟨rfl, trivial⟩ trivial ⟨(kn rfl), trivial⟩ (fun _ _ _ h => PY.tidy h.1 h.2.1 h.2.2) ?_
   rintro _ _ _ ⟨rfl, rfl, rfl⟩
   refine l_as ?_
   refine e_nil ?_
   try refine e_fl ?_
   exact e_returnx (pB l p) ([]) rfl (.tmp (kn rfl) (.nil)) (Imp.refl _) ⟨s_b, trivial⟩ trivial (.inl ⟨p, 9, p, hw, rfl, rfl, rfl⟩)
  have h1 := not_f h
  have h2 : sWant l (kindT t) t p = .ok (p + 1) := by unfold sWant; rw [h1]; rfl
  rw [h2] at hw
  rw [h1]
  try refine e_fl ?_
  refine e_plain (w_op rfl rfl rfl (s_bin rfl (kn rfl) (kn rfl) (v_add64 (by first | omega | (dsimp only; omega) | omega))) (w_mv rfl rfl rfl rfl rfl .nil)) ?_
  try refine e_fl ?_
  refine e_again ⟨(i + 1, p + 1), by omega, by dsimp only; omega, hw⟩ (by dsimp only; omega) (fun K => e_sub ⟨s_t, s_t, s_t, s_t, trivial⟩ ⟨s_b, trivial⟩ trivial)
 obtain rfl : i = ts.length := by have := of_decide_eq_false h; omega
 rw [List.drop_length, sWants] at hw
 try refine e_fl ?_
 refine e_plain (w_as rfl rfl rfl rfl rfl .nil) ?_
 try refine e_fl ?_
 exact e_returnx (pB l p) ([]) rfl (.tmp (kn rfl) (.nil)) (Imp.refl _) ⟨s_b, trivial⟩ trivial (.inr ⟨p, hw, rfl, rfl, rfl⟩)
end Go.Proofs.YtekeanikgcpijaaGreatDoor
