/- Part 13 of what the last text of this claim is proved by: walks over the program, and the math behind them. Conditions: as each theorem says. -/
import Derived.Test.YtekeanikgcpijaaDoorSO12
import Derived.Lib.IndexMore
import Derived.Lib.IndexLaws
import Derived.Test.YtekeanikgcpijaaDoorProg
namespace Go.Proofs.YtekeanikgcpijaaDoor
open Go Go.Lib
def lxGap (b : UInt8) : Bool := b == 32 || b == 9 || b == 13 || b == 10
def lxLet (b : UInt8) : Bool := decide (97 ≤ b.toNat ∧ b.toNat ≤ 122) || decide (65 ≤ b.toNat ∧ b.toNat ≤ 90) || b == 95
def lxFig (b : UInt8) : Bool := decide (48 ≤ b.toNat ∧ b.toNat ≤ 57)
def lxIn (b : UInt8) : Bool := lxLet b || lxFig b
def lxQuote (b : UInt8) : Bool := b == 34 || b == 39
def signs : List UInt8 := [123, 125, 91, 93, 60, 62, 40, 41, 59, 61, 44, 46, 45]
def lxSign (b : UInt8) : Bool := signs.contains b
def ldig (b : UInt8) : Nat :=
  if 48 ≤ b.toNat ∧ b.toNat ≤ 57 then b.toNat - 48 else if 97 ≤ b.toNat ∧ b.toNat ≤ 102 then b.toNat - 97 + 10
  else if 65 ≤ b.toNat ∧ b.toNat ≤ 70 then b.toNat - 65 + 10 else 16
def lspan (p : UInt8 → Bool) : List UInt8 → Nat
  | [] => 0
  | b :: l => if p b then lspan p l + 1 else 0
theorem lspan_le (p : UInt8 → Bool) : ∀ l, lspan p l ≤ l.length
  | [] => Nat.le_refl _
  | b :: l => by
    have := lspan_le p l
    unfold lspan
    split <;> simp <;> omega
theorem lspan_eq {p : UInt8 → Bool} : ∀ {l : List UInt8} {i : Nat}, i ≤ l.length → (∀ j b, j < i → l[j]? = some b → p b = true) → (∀ b, l[i]? = some b → p b = false) → lspan p l = i
  | [], i, hi, _, _ => by
    have : i = 0 := by simpa using hi
    subst this; rfl
  | b :: l, 0, _, _, hs => by
    have := hs b (by simp)
    simp [lspan, this]
  | b :: l, i + 1, hi, hj, hs => by
    have h0 := hj 0 b (by omega) (by simp)
    have := lspan_eq (p := p) (l := l) (i := i) (by simpa using hi) (fun j c h hc => hj (j + 1) c (by omega) (by simpa using hc)) (fun c hc => hs c (by simpa using hc))
    simp [lspan, h0, this]
theorem lspan_all {p : UInt8 → Bool} : ∀ {l : List UInt8} {j : Nat} {b : UInt8}, j < lspan p l → l[j]? = some b → p b = true
  | [], j, b, h, _ => by simp [lspan] at h
  | c :: l, j, b, h, hb => by
    unfold lspan at h
    split at h
    · rename_i hc
      cases j with
      | zero => simp at hb; exact hb ▸ hc
      | succ j => exact lspan_all (l := l) (j := j) (by omega) (by simpa using hb)
    · omega
theorem lspan_pos {p : UInt8 → Bool} {b : UInt8} {l : List UInt8} (h : p b = true) : lspan p (b :: l) = lspan p l + 1 := by simp [lspan, h]
def lval (base : Nat) (ds : List UInt8) : Nat := ds.foldl (fun n b => n * base + ldig b) 0
def lnb (base : Nat) (ds : List UInt8) : Nat × Nat :=
  if ds = [] ∨ (ds.all fun b => decide (ldig b < base)) = false then (0, 9) else if 2147483647 < lval base ds then (0, 1) else (lval base ds, 0)
def lnum (l : List UInt8) : Nat × Nat :=
  if l.take 2 = [48, 120] ∨ l.take 2 = [48, 88] then lnb 16 (l.drop 2) else if l.head? = some 48 then lnb 8 l else lnb 10 l
def lclosed (k : Nat) (e l : List UInt8) : Nat × Nat := if index (l.drop k) e < 0 then (0, 9) else (k + (index (l.drop k) e).toNat + e.length, 0)
def noLF (b : UInt8) : Bool := b != 10
def lcut (l : List UInt8) : Nat × Nat × Nat :=
  if lxGap (l.headD 0) then (0, lspan lxGap l, 0)
  else if l.take 2 = [47, 47] then (0, lspan noLF l, 0)
  else if l.take 2 = [47, 42] then (0, lclosed 2 [42, 47] l)
  else if lxLet (l.headD 0) then (1, lspan lxIn l, 0)
  else if lxFig (l.headD 0) then (2, lspan lxIn l, 0)
  else if lxQuote (l.headD 0) then (3, lclosed 1 [l.headD 0] l)
  else if lxSign (l.headD 0) then (4, 1, 0)
  else (0, 0, 9)
structure Tok where
  k : Nat
  t : List UInt8
  n : Nat
deriving DecidableEq
def ltoken (k : Nat) (p : List UInt8) : Tok × Nat :=
  if k = 0 then (⟨0, [], 0⟩, 0)
  else if k = 1 then (if 40 < p.length then (⟨0, [], 0⟩, 3) else (⟨1, p, 0⟩, 0))
  else if k = 2 then (if (lnum p).2 = 0 then (⟨2, p, (lnum p).1⟩, 0) else (⟨0, [], 0⟩, (lnum p).2))
  else if k = 3 then (if (92 : UInt8) ∈ (p.drop 1).take (p.length - 2) ∨ (10 : UInt8) ∈ (p.drop 1).take (p.length - 2) then (⟨0, [], 0⟩, 9) else (⟨3, (p.drop 1).take (p.length - 2), 0⟩, 0))
  else (⟨k, p, 0⟩, 0)
def lfirst (l : List UInt8) : Tok × Nat × Nat :=
  if (lcut l).2.2 ≠ 0 then (⟨0, [], 0⟩, 0, (lcut l).2.2)
  else if (ltoken (lcut l).1 (l.take (lcut l).2.1)).2 ≠ 0 then (⟨0, [], 0⟩, 0, (ltoken (lcut l).1 (l.take (lcut l).2.1)).2)
  else ((ltoken (lcut l).1 (l.take (lcut l).2.1)).1, (lcut l).2.1, 0)
theorem lclosed_size {k : Nat} {e l : List UInt8} (hk : k ≤ l.length) (h : (lclosed k e l).2 = 0) : k + e.length ≤ (lclosed k e l).1 ∧ (lclosed k e l).1 ≤ l.length := by
  unfold lclosed at h ⊢
  split
  · rename_i h0; rw [if_pos h0] at h; cases h
  · rename_i h0
    have := index_room (l.drop k) e (by omega)
    rw [List.length_drop] at this
    simp only
    omega
theorem lspan_first {p : UInt8 → Bool} {l : List UInt8} (h0 : 0 < l.length) (h : p (l.headD 0) = true) : 0 < lspan p l := by
  cases l with
  | nil => simp at h0
  | cons b l => rw [lspan_pos (by simpa using h)]; omega
theorem lcut_size {l : List UInt8} (h0 : 0 < l.length) (h : (lcut l).2.2 = 0) : 0 < (lcut l).2.1 ∧ (lcut l).2.1 ≤ l.length := by
  unfold lcut at h ⊢
  split
  · rename_i h1
    exact ⟨lspan_first h0 h1, lspan_le _ _⟩
  rename_i h1
  rw [if_neg h1] at h
  split
  · rename_i h2
    refine ⟨?_, lspan_le _ _⟩
    refine lspan_first h0 ?_
    match l, h2 with
    | b :: c :: l, h2 => simp at h2; simp [h2.1, noLF]
    | [b], h2 => simp at h2
  rename_i h2
  rw [if_neg h2] at h
  split
  · rename_i h3
    rw [if_pos h3] at h
    have hk : 2 ≤ l.length := by
      have := congrArg List.length h3
      rw [List.length_take] at this
      simp at this
      omega
    have := lclosed_size (k := 2) hk h
    simp only at this ⊢
    omega
  rename_i h3
  rw [if_neg h3] at h
  split
  · rename_i h4
    exact ⟨lspan_first h0 (by simp only [lxIn, h4, Bool.true_or]), lspan_le _ _⟩
  rename_i h4
  rw [if_neg h4] at h
  split
  · rename_i h5
    exact ⟨lspan_first h0 (by simp only [lxIn, h5, Bool.or_true]), lspan_le _ _⟩
  rename_i h5
  rw [if_neg h5] at h
  split
  · rename_i h6
    rw [if_pos h6] at h
    have := lclosed_size (k := 1) (by omega) h
    simp only at this ⊢
    omega
  rename_i h6
  rw [if_neg h6] at h
  split
  · exact ⟨by simp, h0⟩
  · rename_i h7
    rw [if_neg h7] at h
    simp at h
theorem lfirst_size {l : List UInt8} (h0 : 0 < l.length) (h : (lfirst l).2.2 = 0) : 0 < (lfirst l).2.1 ∧ (lfirst l).2.1 ≤ l.length ∧ (lcut l).2.2 = 0 ∧ (lfirst l).2.1 = (lcut l).2.1 ∧ (ltoken (lcut l).1 (l.take (lcut l).2.1)).2 = 0 ∧ (lfirst l).1 = (ltoken (lcut l).1 (l.take (lcut l).2.1)).1 := by
  unfold lfirst at h ⊢
  split
  · rename_i h1; rw [if_pos h1] at h; exact absurd h h1
  rename_i h1
  rw [if_neg h1] at h
  split
  · rename_i h2; rw [if_pos h2] at h; exact absurd h h2
  rename_i h2
  have := lcut_size h0 (by simpa using h1)
  exact ⟨this.1, this.2, by simpa using h1, rfl, by simpa using h2, rfl⟩
def lplace (p : Nat × Nat) (l : List UInt8) : Nat × Nat := l.foldl (fun p b => if b = 10 then (p.1 + 1, 1) else (p.1, p.2 + 1)) p
theorem lplace_append (p : Nat × Nat) (l m : List UInt8) : lplace p (l ++ m) = lplace (lplace p l) m := by simp [lplace]
theorem lplace_snoc (p : Nat × Nat) (l : List UInt8) (b : UInt8) : lplace p (l ++ [b]) = if b = 10 then ((lplace p l).1 + 1, 1) else ((lplace p l).1, (lplace p l).2 + 1) := by
  rw [lplace_append]; simp [lplace]
theorem lplace_le : ∀ (l : List UInt8) (p : Nat × Nat), (lplace p l).1 ≤ p.1 + l.length ∧ (lplace p l).2 ≤ p.2 + 1 + l.length
  | [], p => by simp only [lplace, List.foldl_nil, List.length_nil]; omega
  | b :: l, p => by
    have e : lplace p (b :: l) = lplace (if b = 10 then (p.1 + 1, 1) else (p.1, p.2 + 1)) l := rfl
    rw [e]
    split
    · have := lplace_le l (p.1 + 1, 1)
      simp only [List.length_cons] at this ⊢
      omega
    · have := lplace_le l (p.1, p.2 + 1)
      simp only [List.length_cons] at this ⊢
      omega
def placeAt (l : List UInt8) (at' : Nat) : Nat × Nat := lplace (1, 1) (l.take at')
theorem placeAt_more (l : List UInt8) (i n : Nat) : placeAt l (i + n) = lplace (placeAt l i) ((l.drop i).take n) := by
  unfold placeAt
  rw [← lplace_append, List.take_add]
theorem placeAt_le (l : List UInt8) (i : Nat) : (placeAt l i).1 ≤ 1 + l.length ∧ (placeAt l i).2 ≤ 2 + l.length := by
  have := lplace_le (l.take i) (1, 1)
  have h : (l.take i).length ≤ l.length := by rw [List.length_take]; omega
  unfold placeAt
  simp only at this ⊢
  omega
inductive Lex (l : List UInt8) : Nat → List (Tok × Nat) → Nat → Nat → Prop
  | done {i : Nat} : i = l.length → Lex l i [] 0 0
  | bad {i : Nat} : i < l.length → (lfirst (l.drop i)).2.2 ≠ 0 → Lex l i [] (lfirst (l.drop i)).2.2 i
  | gap {i : Nat} {ts e ea} : i < l.length → (lfirst (l.drop i)).2.2 = 0 → (lcut (l.drop i)).1 = 0 → Lex l (i + (lfirst (l.drop i)).2.1) ts e ea → Lex l i ts e ea
  | tok {i : Nat} {ts e ea} : i < l.length → (lfirst (l.drop i)).2.2 = 0 → (lcut (l.drop i)).1 ≠ 0 → Lex l (i + (lfirst (l.drop i)).2.1) ts e ea → Lex l i (((lfirst (l.drop i)).1, i) :: ts) e ea
theorem lex_total (l : List UInt8) : ∀ (n i : Nat), i + n = l.length → ∃ ts e ea, Lex l i ts e ea := by
  intro n
  induction n using Nat.strongRecOn with
  | ind n ih =>
    intro i hi
    by_cases h0 : i = l.length
    · exact ⟨_, _, _, .done h0⟩
    have hlt : i < l.length := by omega
    by_cases hb : (lfirst (l.drop i)).2.2 = 0
    · have hs := lfirst_size (l := l.drop i) (by rw [List.length_drop]; omega) hb
      rw [List.length_drop] at hs
      obtain ⟨ts, e, ea, hL⟩ := ih (n - (lfirst (l.drop i)).2.1) (by omega) (i + (lfirst (l.drop i)).2.1) (by omega)
      by_cases hk : (lcut (l.drop i)).1 = 0
      · exact ⟨_, _, _, .gap hlt hb hk hL⟩
      · exact ⟨_, _, _, .tok hlt hb hk hL⟩
    · exact ⟨_, _, _, .bad hlt hb⟩
end Go.Proofs.YtekeanikgcpijaaDoor
namespace Go.Proofs.YtekeanikgcpijaaDoor
open Go Go.Lib
abbrev Tk := Tok × Nat × Nat
structure Fld where
 name : List UInt8
 type : List UInt8
 mapKey : List UInt8
 key : List UInt8
 label : Int
 number : Int
 packed : Int
 oneof : Int
 line : Int
 col : Int
structure Val where
 name : List UInt8
 number : Int
 line : Int
 col : Int
structure Enm where
 name : List UInt8
 vals : List Val
 line : Int
 col : Int
inductive Msg where
 | mk (name : List UInt8) (fields : List Fld) (oneofs : List (List UInt8)) (msgs : List Msg) (enums : List Enm) (reserved : List (Int × Int)) (names : List (List UInt8)) (line col : Int)
structure Fil where
 package : List UInt8
 msgs : List Msg
 enums : List Enm
abbrev Ans8 (α : Type) := Except (Nat × Nat) α
def form8 {α : Type} (p : Nat) : Ans8 α := .error (p, 9)
def tkIs (l : List Tk) (p k : Nat) (t : List UInt8) : Bool :=
 match l[p]? with
 | none => false
 | some x => decide (x.1.k = k) && (decide (t = []) || decide (x.1.t = t))
def sWant (l : List Tk) (k : Nat) (t : List UInt8) (p : Nat) : Ans8 Nat := if tkIs l p k t then .ok (p + 1) else form8 p
def sName (l : List Tk) (p : Nat) : Ans8 (Tk × Nat) :=
 match l[p]? with
 | none => form8 p
 | some x => if x.1.k = 1 then .ok (x, p + 1) else form8 p
def sNumber (l : List Tk) (p : Nat) : Ans8 (Int × Nat) :=
 match l[p]? with
 | none => form8 p
 | some x => if x.1.k = 2 then .ok ((x.1.n : Int), p + 1) else form8 p
def sDots (l : List Tk) : Nat → List UInt8 → Nat → Ans8 (List UInt8 × Nat)
 | 0, _, p => form8 p
 | n + 1, s, p =>
  match sName l p with
  | .error e => .error e
  | .ok (x, q) => if tkIs l q 4 [46] then sDots l n (s ++ x.1.t ++ [46]) (q + 1) else .ok (s ++ x.1.t, q)
def sDotted (l : List Tk) (typ : Bool) (p : Nat) : Ans8 (List UInt8 × Nat) :=
 if typ && tkIs l p 4 [46] then sDots l (l.length + 1) [46] (p + 1) else sDots l (l.length + 1) [] p
def sOption (l : List Tk) (f : Fld) (p : Nat) : Ans8 (Fld × Nat) :=
 if tkIs l p 1 [112, 97, 99, 107, 101, 100] && decide (f.packed = 0) then
  match sWant l 4 [61] (p + 1) with
  | .error e => .error e
  | .ok q =>
   if tkIs l q 1 [116, 114, 117, 101] then .ok ({ f with packed := 1 }, q + 1)
   else if tkIs l q 1 [102, 97, 108, 115, 101] then .ok ({ f with packed := 2 }, q + 1)
   else form8 q
 else if tkIs l p 1 [107, 101, 121] && decide (f.key = []) then
  match sWant l 4 [61] (p + 1) with
  | .error e => .error e
  | .ok q =>
   match sName l q with
   | .error e => .error e
   | .ok (x, r) => .ok ({ f with key := x.1.t }, r)
 else form8 p
def sOpts (l : List Tk) : Nat → Fld → Nat → Ans8 (Fld × Nat)
 | 0, _, p => form8 p
 | n + 1, f, p =>
  match sOption l f (p + 1) with
  | .error e => .error e
  | .ok (g, q) =>
   if tkIs l q 4 [44] then sOpts l n g q
   else
    match sWant l 4 [93] q with
    | .error e => .error e
    | .ok r =>
     match sWant l 4 [59] r with
     | .error e => .error e
     | .ok s => .ok (g, s)
def sOptions (l : List Tk) (f : Fld) (p : Nat) : Ans8 (Fld × Nat) :=
 if tkIs l p 4 [91] then sOpts l (l.length + 1) f p
 else
  match sWant l 4 [59] p with
  | .error e => .error e
  | .ok s => .ok (f, s)
def sRest (l : List Tk) (f : Fld) (p : Nat) : Ans8 (Fld × Nat) :=
 match sName l p with
 | .error e => .error e
 | .ok (x, q) =>
  match sWant l 4 [61] q with
  | .error e => .error e
  | .ok r =>
   match sNumber l r with
   | .error e => .error e
   | .ok (n, s) => sOptions l { f with name := x.1.t, line := x.2.1, col := x.2.2, number := n } s
def fld0 (label oneof : Int) : Fld := ⟨[], [], [], [], label, 0, 0, oneof, 0, 0⟩
def sField (l : List Tk) (p : Nat) (label oneof : Int) : Ans8 (Fld × Nat) :=
 match sDotted l true p with
 | .error e => .error e
 | .ok (s, q) => sRest l { fld0 label oneof with type := s } q
def sMapped (l : List Tk) (p : Nat) : Ans8 (Fld × Nat) :=
 match sWant l 4 [60] p with
 | .error e => .error e
 | .ok q =>
  match sName l q with
  | .error e => .error e
  | .ok (x, r) =>
   match sWant l 4 [44] r with
   | .error e => .error e
   | .ok s =>
    match sDotted l true s with
    | .error e => .error e
    | .ok (t, u) =>
     match sWant l 4 [62] u with
     | .error e => .error e
     | .ok v => sRest l { fld0 4 0 with mapKey := x.1.t, type := t } v
def sSemis (l : List Tk) : Nat → Nat → Nat
 | 0, p => p
 | n + 1, p => if tkIs l p 4 [59] then sSemis l n (p + 1) else p
def semis (l : List Tk) (p : Nat) : Nat := sSemis l (l.length - p) p
def sHead (l : List Tk) (p : Nat) : Ans8 (Tk × Nat) :=
 match sName l p with
 | .error e => .error e
 | .ok (x, q) =>
  match sWant l 4 [123] q with
  | .error e => .error e
  | .ok r => .ok (x, r)
def sValue (l : List Tk) (p : Nat) : Ans8 (Val × Nat) :=
 match sName l p with
 | .error e => .error e
 | .ok (x, q) =>
  match sWant l 4 [61] q with
  | .error e => .error e
  | .ok r =>
   if tkIs l r 4 [45] then
    match sNumber l (r + 1) with
    | .error e => .error e
    | .ok (n, s) =>
     match sWant l 4 [59] s with
     | .error e => .error e
     | .ok t => .ok (⟨x.1.t, -n, x.2.1, x.2.2⟩, t)
   else
    match sNumber l r with
    | .error e => .error e
    | .ok (n, s) =>
     match sWant l 4 [59] s with
     | .error e => .error e
     | .ok t => .ok (⟨x.1.t, n, x.2.1, x.2.2⟩, t)
def sVals (l : List Tk) : Nat → List Val → Nat → Ans8 (List Val × Nat)
 | 0, _, p => form8 p
 | n + 1, vs, p0 =>
  let p := semis l p0
  if tkIs l p 4 [125] then (if vs = [] then form8 p else .ok (vs, p + 1))
  else
   match sValue l p with
   | .error e => .error e
   | .ok (v, q) => sVals l n (vs ++ [v]) q
def sEnum (l : List Tk) (p : Nat) : Ans8 (Enm × Nat) :=
 match sHead l p with
 | .error e => .error e
 | .ok (x, q) =>
  match sVals l (l.length + 1) [] q with
  | .error e => .error e
  | .ok (vs, r) => .ok (⟨x.1.t, vs, x.2.1, x.2.2⟩, r)
def sFlds (l : List Tk) (which : Int) : Nat → List Fld → Nat → Ans8 (List Fld × Nat)
 | 0, _, p => form8 p
 | n + 1, fs, p0 =>
  let p := semis l p0
  if tkIs l p 4 [125] then (if fs = [] then form8 p else .ok (fs, p + 1))
  else
   match sField l p 1 which with
   | .error e => .error e
   | .ok (f, q) => sFlds l which n (fs ++ [f]) q
def sOneof (l : List Tk) (p : Nat) (which : Int) : Ans8 ((List UInt8 × List Fld) × Nat) :=
 match sHead l p with
 | .error e => .error e
 | .ok (x, q) =>
  match sFlds l which (l.length + 1) [] q with
  | .error e => .error e
  | .ok (fs, r) => .ok ((x.1.t, fs), r)
def sRange (l : List Tk) (p : Nat) : Ans8 ((Int × Int) × Nat) :=
 match sNumber l p with
 | .error e => .error e
 | .ok (n, q) =>
  if tkIs l q 1 [116, 111] then
   if tkIs l (q + 1) 1 [109, 97, 120] then .ok ((n, 536870911), q + 2)
   else
    match sNumber l (q + 1) with
    | .error e => .error e
    | .ok (m, r) => .ok ((n, m), r)
  else .ok ((n, n), q)
def sRanges (l : List Tk) : Nat → List (Int × Int) → Nat → Ans8 (List (Int × Int) × Nat)
 | 0, _, p => form8 p
 | n + 1, rs, p =>
  match sRange l p with
  | .error e => .error e
  | .ok (x, q) =>
   if tkIs l q 4 [44] then sRanges l n (rs ++ [x]) (q + 1)
   else
    match sWant l 4 [59] q with
    | .error e => .error e
    | .ok r => .ok (rs ++ [x], r)
def sText (l : List Tk) (p : Nat) : Ans8 (List UInt8 × Nat) :=
 match l[p]? with
 | none => form8 p
 | some x => if x.1.k = 3 then .ok (x.1.t, p + 1) else form8 p
def sTexts (l : List Tk) : Nat → List (List UInt8) → Nat → Ans8 (List (List UInt8) × Nat)
 | 0, _, p => form8 p
 | n + 1, ts, p =>
  match sText l p with
  | .error e => .error e
  | .ok (x, q) =>
   if tkIs l q 4 [44] then sTexts l n (ts ++ [x]) (q + 1)
   else
    match sWant l 4 [59] q with
    | .error e => .error e
    | .ok r => .ok (ts ++ [x], r)
def isText (l : List Tk) (p : Nat) : Bool :=
 match l[p]? with
 | none => false
 | some x => decide (x.1.k = 3)
def sReserved (l : List Tk) (p : Nat) : Ans8 ((List (Int × Int) × List (List UInt8)) × Nat) :=
 if isText l p then
  match sTexts l (l.length + 1) [] p with
  | .error e => .error e
  | .ok (ts, q) => .ok (([], ts), q)
 else
  match sRanges l (l.length + 1) [] p with
  | .error e => .error e
  | .ok (rs, q) => .ok ((rs, []), q)
def wordAt (l : List Tk) (p : Nat) : List UInt8 :=
 match l[p]? with
 | none => []
 | some x => if x.1.k = 1 then x.1.t else []
def Msg.oneofs : Msg → List (List UInt8)
 | .mk _ _ os _ _ _ _ _ _ => os
def Msg.addMsg : Msg → Msg → Msg
 | .mk n f o m e r s l c, k => .mk n f o (m ++ [k]) e r s l c
def Msg.addEnum : Msg → Enm → Msg
 | .mk n f o m e r s l c, k => .mk n f o m (e ++ [k]) r s l c
def Msg.addOneof : Msg → List UInt8 × List Fld → Msg
 | .mk n f o m e r s l c, k => .mk n (f ++ k.2) (o ++ [k.1]) m e r s l c
def Msg.addReserved : Msg → List (Int × Int) × List (List UInt8) → Msg
 | .mk n f o m e r s l c, k => .mk n f o m e (r ++ k.1) (s ++ k.2) l c
def Msg.addField : Msg → Fld → Msg
 | .mk n f o m e r s l c, k => .mk n (f ++ [k]) o m e r s l c
def sPart (l : List Tk) (sub : Nat → Ans8 (Msg × Nat)) (m : Msg) (p : Nat) : Ans8 (Msg × Nat) :=
 let word := wordAt l p
 if word = [109, 101, 115, 115, 97, 103, 101] then
  match sub (p + 1) with
  | .error e => .error e
  | .ok (k, q) => .ok (m.addMsg k, q)
 else if word = [101, 110, 117, 109] then
  match sEnum l (p + 1) with
  | .error e => .error e
  | .ok (k, q) => .ok (m.addEnum k, q)
 else if word = [111, 110, 101, 111, 102] then
  match sOneof l (p + 1) ((m.oneofs.length : Int) + 1) with
  | .error e => .error e
  | .ok (k, q) => .ok (m.addOneof k, q)
 else if word = [114, 101, 115, 101, 114, 118, 101, 100] then
  match sReserved l (p + 1) with
  | .error e => .error e
  | .ok (k, q) => .ok (m.addReserved k, q)
 else
  match (if word = [114, 101, 112, 101, 97, 116, 101, 100] then sField l (p + 1) 3 0
   else if word = [111, 112, 116, 105, 111, 110, 97, 108] then sField l (p + 1) 2 0
   else if decide (word = [109, 97, 112]) && tkIs l (p + 1) 4 [60] then sMapped l (p + 1)
   else sField l p 1 0) with
  | .error e => .error e
  | .ok (k, q) => .ok (m.addField k, q)
def sBody (l : List Tk) (sub : Nat → Ans8 (Msg × Nat)) : Nat → Msg → Nat → Ans8 (Msg × Nat)
 | 0, _, p => form8 p
 | n + 1, m, p0 =>
  let p := semis l p0
  if tkIs l p 4 [125] then .ok (m, p + 1)
  else
   match sPart l sub m p with
   | .error e => .error e
   | .ok (m', q) => sBody l sub n m' q
def sMessage (l : List Tk) : Nat → Nat → Ans8 (Msg × Nat)
 | 0, p =>
  match sName l p with
  | .error e => .error e
  | .ok _ => .error (p, 8)
 | d + 1, p =>
  match sName l p with
  | .error e => .error e
  | .ok (x, q) =>
   match sWant l 4 [123] q with
   | .error e => .error e
   | .ok r => sBody l (sMessage l d) (l.length + 1) (.mk x.1.t [] [] [] [] [] [] x.2.1 x.2.2) r
def sParts (l : List Tk) : Nat → Fil → Nat → Ans8 Fil
 | 0, _, p => form8 p
 | n + 1, f, p =>
  if p < l.length then
   if tkIs l p 4 [59] then sParts l n f (p + 1)
   else if tkIs l p 1 [109, 101, 115, 115, 97, 103, 101] then
    match sMessage l 8 (p + 1) with
    | .error e => .error e
    | .ok (m, q) => sParts l n { f with msgs := f.msgs ++ [m] } q
   else if tkIs l p 1 [101, 110, 117, 109] then
    match sEnum l (p + 1) with
    | .error e => .error e
    | .ok (k, q) => sParts l n { f with enums := f.enums ++ [k] } q
   else form8 p
  else .ok f
def sPackage (l : List Tk) (p : Nat) : Ans8 (List UInt8 × Nat) :=
 if tkIs l p 1 [112, 97, 99, 107, 97, 103, 101] then
  match sDotted l false (p + 1) with
  | .error e => .error e
  | .ok (s, q) =>
   match sWant l 4 [59] q with
   | .error e => .error e
   | .ok r => .ok (s, r)
 else .ok ([], p)
def sFile (l : List Tk) : Ans8 Fil :=
 match sWant l 1 [115, 121, 110, 116, 97, 120] 0 with
 | .error e => .error e
 | .ok p =>
  match sWant l 4 [61] p with
  | .error e => .error e
  | .ok q =>
   match sText l q with
   | .error e => .error e
   | .ok (t, r) =>
    if t = [112, 114, 111, 116, 111, 51] then
     match sWant l 4 [59] r with
     | .error e => .error e
     | .ok s =>
      match sPackage l s with
      | .error e => .error e
      | .ok (pk, u) => sParts l (l.length + 1) ⟨pk, [], []⟩ u
    else form8 q
end Go.Proofs.YtekeanikgcpijaaDoor
namespace Go.Proofs.YtekeanikgcpijaaDoor
open Go.RowKit
def Fld.cells (f : Fld) : List Value := [.string (str f.name), .string (str f.type), .string (str f.mapKey), .string (str f.key), .int .i64 f.label, .int .i64 f.number, .int .i64 f.packed, .int .i64 f.oneof, .int .i64 f.line, .int .i64 f.col]
def Fld.dats (f : Fld) : List Dat := f.cells.map .cell
def Val.cells (v : Val) : List Value := [.string (str v.name), .int .i64 v.number, .int .i64 v.line, .int .i64 v.col]
def Val.dats (v : Val) : List Dat := v.cells.map .cell
def textDats (t : List UInt8) : List Dat := [.cell (.string (str t))]
def rangeDats (x : Int × Int) : List Dat := [.cell (.int .i64 x.1), .cell (.int .i64 x.2)]
def Enm.dats (e : Enm) : List Dat := [.cell (.string (str e.name)), .row 4 e.vals.length (e.vals.flatMap Val.dats), .cell (.int .i64 e.line), .cell (.int .i64 e.col)]
mutual
def Msg.dats : Msg → List Dat
 | .mk n f o m e r s l c => [.cell (.string (str n)), .row 10 f.length (f.flatMap Fld.dats), .row 1 o.length (o.flatMap textDats), .row 9 m.length (Msg.datss m), .row 4 e.length (e.flatMap Enm.dats), .row 2 r.length (r.flatMap rangeDats), .row 1 s.length (s.flatMap textDats), .cell (.int .i64 l), .cell (.int .i64 c)]
def Msg.datss : List Msg → List Dat
 | [] => []
 | k :: ks => k.dats ++ Msg.datss ks
end
theorem Msg.datss_eq : ∀ ms : List Msg, Msg.datss ms = ms.flatMap Msg.dats
 | [] => by simp [Msg.datss]
 | k :: ks => by rw [Msg.datss, Msg.datss_eq ks, List.flatMap_cons]
theorem Fld.dats_len (f : Fld) : f.dats.length = 10 := rfl
theorem Val.dats_len (f : Val) : f.dats.length = 4 := rfl
theorem textDats_len (t : List UInt8) : (textDats t).length = 1 := rfl
theorem Enm.dats_len (f : Enm) : f.dats.length = 4 := rfl
theorem Msg.dats_len (m : Msg) : m.dats.length = 9 := by cases m; rfl
def Fil.dats (f : Fil) : List Dat := [.cell (.string (str f.package)), .row 9 f.msgs.length (f.msgs.flatMap Msg.dats), .row 4 f.enums.length (f.enums.flatMap Enm.dats)]
theorem Msg.dats_mk (n : List UInt8) (f : List Fld) (o : List (List UInt8)) (m : List Msg) (e : List Enm) (r : List (Int × Int)) (s : List (List UInt8)) (l c : Int) :
  (Msg.mk n f o m e r s l c).dats = [.cell (.string (str n)), .row 10 f.length (f.flatMap Fld.dats), .row 1 o.length (o.flatMap textDats), .row 9 m.length (m.flatMap Msg.dats), .row 4 e.length (e.flatMap Enm.dats), .row 2 r.length (r.flatMap rangeDats), .row 1 s.length (s.flatMap textDats), .cell (.int .i64 l), .cell (.int .i64 c)] := by
 rw [Msg.dats, Msg.datss_eq]
def tkCells (x : Tk) : List Value := [.int .i64 (x.1.k : Int), .string (str x.1.t), .int .i64 (x.1.n : Int), .int .i64 (x.2.1 : Int), .int .i64 (x.2.2 : Int)]
end Go.Proofs.YtekeanikgcpijaaDoor
namespace Go.Proofs.YtekeanikgcpijaaDoor
open Go Go.Lib
theorem tkIs_lt {l : List Tk} {p k : Nat} {t : List UInt8} (h : tkIs l p k t = true) : p < l.length := by
 rcases Nat.lt_or_ge p l.length with h' | h'
 ·exact h'
 ·unfold tkIs at h; rw [List.getElem?_eq_none h'] at h; cases h
theorem sWant_ok {l : List Tk} {k : Nat} {t : List UInt8} {p q : Nat} (h : sWant l k t p = .ok q) : q = p + 1 ∧ p < l.length := by
 unfold sWant at h
 split at h
 ·rename_i h1; injection h with h; exact ⟨h.symm, tkIs_lt h1⟩
 ·cases h
theorem sName_ok {l : List Tk} {p q : Nat} {x : Tk} (h : sName l p = .ok (x, q)) : q = p + 1 ∧ p < l.length ∧ l[p]? = some x ∧ x.1.k = 1 := by
 unfold sName at h
 split at h
 ·cases h
 ·rename_i y hy
  split at h
  ·rename_i h1
   injection h with h
   injection h with h2 h3
   subst h2
   exact ⟨h3.symm, (List.getElem?_eq_some_iff.1 hy).1, hy, h1⟩
  ·cases h
theorem sNumber_ok {l : List Tk} {p q : Nat} {x : Int} (h : sNumber l p = .ok (x, q)) : q = p + 1 ∧ p < l.length ∧ ∃ y, l[p]? = some y ∧ x = (y.1.n : Int) := by
 unfold sNumber at h
 split at h
 ·cases h
 ·rename_i y hy
  split at h
  ·injection h with h
   injection h with h2 h3
   exact ⟨h3.symm, (List.getElem?_eq_some_iff.1 hy).1, y, hy, h2.symm⟩
  ·cases h
theorem sText_ok {l : List Tk} {p q : Nat} {x : List UInt8} (h : sText l p = .ok (x, q)) : q = p + 1 ∧ p < l.length := by
 unfold sText at h
 split at h
 ·cases h
 ·rename_i y hy
  split at h
  ·injection h with h
   injection h with h2 h3
   exact ⟨h3.symm, (List.getElem?_eq_some_iff.1 hy).1⟩
  ·cases h
theorem sDots_ok {l : List Tk} : ∀ (n : Nat) (s : List UInt8) (p : Nat) {t : List UInt8} {q : Nat}, sDots l n s p = .ok (t, q) → p < q ∧ q ≤ l.length
 | 0, s, p, t, q, h => by cases h
 | n + 1, s, p, t, q, h => by
  unfold sDots at h
  split at h
  ·cases h
  rename_i x r hx
  have h1 := sName_ok hx
  split at h
  ·have := sDots_ok n _ _ h
   omega
  ·injection h with h
   injection h with h2 h3
   omega
theorem sDotted_ok {l : List Tk} {typ : Bool} {p : Nat} {t : List UInt8} {q : Nat} (h : sDotted l typ p = .ok (t, q)) : p < q ∧ q ≤ l.length := by
 unfold sDotted at h
 split at h
 ·have := sDots_ok _ _ _ h
  omega
 ·exact sDots_ok _ _ _ h
theorem sOption_ok {l : List Tk} {f g : Fld} {p q : Nat} (h : sOption l f p = .ok (g, q)) : p < q ∧ q ≤ l.length := by
 unfold sOption at h
 split at h
 ·split at h
  ·cases h
  rename_i r hr
  have h1 := sWant_ok hr
  split at h
  ·rename_i h2
   have := tkIs_lt h2
   injection h with h
   injection h with h3 h4
   omega
  split at h
  ·rename_i h2
   have := tkIs_lt h2
   injection h with h
   injection h with h3 h4
   omega
  ·cases h
 split at h
 ·split at h
  ·cases h
  rename_i r hr
  have h1 := sWant_ok hr
  split at h
  ·cases h
  rename_i x s hs
  have h2 := sName_ok hs
  injection h with h
  injection h with h3 h4
  omega
 ·cases h
theorem sOpts_ok {l : List Tk} : ∀ (n : Nat) (f : Fld) (p : Nat) {g : Fld} {q : Nat}, sOpts l n f p = .ok (g, q) → p < q ∧ q ≤ l.length
 | 0, f, p, g, q, h => by cases h
 | n + 1, f, p, g, q, h => by
  unfold sOpts at h
  split at h
  ·cases h
  rename_i x r hx
  have h1 := sOption_ok hx
  split at h
  ·have := sOpts_ok n _ _ h
   omega
  split at h
  ·cases h
  rename_i s hs
  have h2 := sWant_ok hs
  split at h
  ·cases h
  rename_i u hu
  have h3 := sWant_ok hu
  injection h with h
  injection h with h4 h5
  omega
theorem sOptions_ok {l : List Tk} {f g : Fld} {p q : Nat} (h : sOptions l f p = .ok (g, q)) : p < q ∧ q ≤ l.length := by
 unfold sOptions at h
 split at h
 ·exact sOpts_ok _ _ _ h
 split at h
 ·cases h
 rename_i s hs
 have h2 := sWant_ok hs
 injection h with h
 injection h with h4 h5
 omega
theorem sRest_ok {l : List Tk} {f g : Fld} {p q : Nat} (h : sRest l f p = .ok (g, q)) : p < q ∧ q ≤ l.length := by
 unfold sRest at h
 split at h
 ·cases h
 rename_i x r hx
 split at h
 ·cases h
 rename_i s hs
 split at h
 ·cases h
 rename_i n u hu
 have h1 := sName_ok hx
 have h2 := sWant_ok hs
 have h3 := sNumber_ok hu
 have h4 := sOptions_ok h
 omega
theorem sField_ok {l : List Tk} {p q : Nat} {a b : Int} {g : Fld} (h : sField l p a b = .ok (g, q)) : p < q ∧ q ≤ l.length := by
 unfold sField at h
 split at h
 ·cases h
 rename_i x r hx
 have h1 := sDotted_ok hx
 have h4 := sRest_ok h
 omega
theorem sMapped_ok {l : List Tk} {p q : Nat} {g : Fld} (h : sMapped l p = .ok (g, q)) : p < q ∧ q ≤ l.length := by
 unfold sMapped at h
 split at h
 ·cases h
 rename_i r1 h1
 split at h
 ·cases h
 rename_i x r2 h2
 split at h
 ·cases h
 rename_i r3 h3
 split at h
 ·cases h
 rename_i y r4 h4
 split at h
 ·cases h
 rename_i r5 h5
 have g1 := sWant_ok h1
 have g2 := sName_ok h2
 have g3 := sWant_ok h3
 have g4 := sDotted_ok h4
 have g5 := sWant_ok h5
 have g6 := sRest_ok h
 omega
theorem sSemis_le {l : List Tk} : ∀ (n p : Nat), p ≤ l.length → p ≤ sSemis l n p ∧ sSemis l n p ≤ l.length
 | 0, p, h => ⟨Nat.le_refl _, h⟩
 | n + 1, p, h => by
  unfold sSemis
  split
  ·rename_i h1
   have := tkIs_lt h1
   have := sSemis_le (l := l) n (p + 1) (by omega)
   omega
  ·exact ⟨Nat.le_refl _, h⟩
theorem semis_le {l : List Tk} {p : Nat} (h : p ≤ l.length) : p ≤ semis l p ∧ semis l p ≤ l.length := sSemis_le _ _ h
theorem semis_more {l : List Tk} {p : Nat} (h : tkIs l p 4 [59] = true) : semis l p = semis l (p + 1) := by
 have := tkIs_lt h
 unfold semis
 obtain ⟨n, hn⟩ : ∃ n, l.length - p = n + 1 := ⟨l.length - p - 1, by omega⟩
 rw [hn, show l.length - (p + 1) = n by omega, sSemis, if_pos h]
theorem semis_done {l : List Tk} {p : Nat} (h : tkIs l p 4 [59] = false) : semis l p = p := by
 unfold semis
 cases l.length - p with
 | zero => rfl
 | succ n => rw [sSemis, if_neg (by rw [h]; decide)]
theorem sHead_ok {l : List Tk} {p q : Nat} {x : Tk} (h : sHead l p = .ok (x, q)) : p < q ∧ q ≤ l.length := by
 unfold sHead at h
 split at h
 ·cases h
 rename_i y r hx
 split at h
 ·cases h
 rename_i s hs
 have h1 := sName_ok hx
 have h2 := sWant_ok hs
 injection h with h
 injection h with h4 h5
 omega
theorem sValue_ok {l : List Tk} {p q : Nat} {x : Val} (h : sValue l p = .ok (x, q)) : p < q ∧ q ≤ l.length := by
 unfold sValue at h
 split at h
 ·cases h
 rename_i y r hx
 split at h
 ·cases h
 rename_i s hs
 have h1 := sName_ok hx
 have h2 := sWant_ok hs
 split at h
 ·split at h
  ·cases h
  rename_i n u hu
  split at h
  ·cases h
  rename_i v hv
  have h3 := sNumber_ok hu
  have h4 := sWant_ok hv
  injection h with h
  injection h with h5 h6
  omega
 ·split at h
  ·cases h
  rename_i n u hu
  split at h
  ·cases h
  rename_i v hv
  have h3 := sNumber_ok hu
  have h4 := sWant_ok hv
  injection h with h
  injection h with h5 h6
  omega
theorem sVals_ok {l : List Tk} : ∀ (n : Nat) (vs : List Val) (p : Nat) {ws : List Val} {q : Nat}, p ≤ l.length → sVals l n vs p = .ok (ws, q) → p < q ∧ q ≤ l.length
 | 0, vs, p, ws, q, hp, h => by cases h
 | n + 1, vs, p, ws, q, hp, h => by
  have hs := semis_le hp
  simp only [sVals] at h
  split at h
  ·rename_i h1
   have := tkIs_lt h1
   split at h
   ·cases h
   ·injection h with h
    injection h with h2 h3
    omega
  split at h
  ·cases h
  rename_i v r hv
  have h1 := sValue_ok hv
  have := sVals_ok n _ _ (by omega) h
  omega
theorem sEnum_ok {l : List Tk} {p q : Nat} {x : Enm} (h : sEnum l p = .ok (x, q)) : p < q ∧ q ≤ l.length := by
 unfold sEnum at h
 split at h
 ·cases h
 rename_i y r hx
 split at h
 ·cases h
 rename_i vs s hs
 have h1 := sHead_ok hx
 have h2 := sVals_ok _ _ _ h1.2 hs
 injection h with h
 injection h with h4 h5
 omega
theorem sFlds_ok {l : List Tk} {a : Int} : ∀ (n : Nat) (vs : List Fld) (p : Nat) {ws : List Fld} {q : Nat}, p ≤ l.length → sFlds l a n vs p = .ok (ws, q) → p < q ∧ q ≤ l.length
 | 0, vs, p, ws, q, hp, h => by cases h
 | n + 1, vs, p, ws, q, hp, h => by
  have hs := semis_le hp
  simp only [sFlds] at h
  split at h
  ·rename_i h1
   have := tkIs_lt h1
   split at h
   ·cases h
   ·injection h with h
    injection h with h2 h3
    omega
  split at h
  ·cases h
  rename_i v r hv
  have h1 := sField_ok hv
  have := sFlds_ok n _ _ (by omega) h
  omega
theorem sOneof_ok {l : List Tk} {p q : Nat} {a : Int} {x : List UInt8 × List Fld} (h : sOneof l p a = .ok (x, q)) : p < q ∧ q ≤ l.length := by
 unfold sOneof at h
 split at h
 ·cases h
 rename_i y r hx
 split at h
 ·cases h
 rename_i vs s hs
 have h1 := sHead_ok hx
 have h2 := sFlds_ok _ _ _ h1.2 hs
 injection h with h
 injection h with h4 h5
 omega
theorem sRange_ok {l : List Tk} {p q : Nat} {x : Int × Int} (h : sRange l p = .ok (x, q)) : p < q ∧ q ≤ l.length := by
 unfold sRange at h
 split at h
 ·cases h
 rename_i n r hx
 have h1 := sNumber_ok hx
 split at h
 ·rename_i ht
  have := tkIs_lt ht
  split at h
  ·rename_i hm
   have := tkIs_lt hm
   injection h with h
   injection h with h4 h5
   omega
  ·split at h
   ·cases h
   rename_i m s hs
   have h2 := sNumber_ok hs
   injection h with h
   injection h with h4 h5
   omega
 ·injection h with h
  injection h with h4 h5
  omega
theorem sRanges_ok {l : List Tk} : ∀ (n : Nat) (s : List (Int × Int)) (p : Nat) {t : List (Int × Int)} {q : Nat}, sRanges l n s p = .ok (t, q) → p < q ∧ q ≤ l.length
 | 0, s, p, t, q, h => by cases h
 | n + 1, s, p, t, q, h => by
  unfold sRanges at h
  split at h
  ·cases h
  rename_i x r hx
  have h1 := sRange_ok hx
  split at h
  ·rename_i hc
   have := tkIs_lt hc
   have := sRanges_ok n _ _ h
   omega
  split at h
  ·cases h
  rename_i u hu
  have h3 := sWant_ok hu
  injection h with h
  injection h with h4 h5
  omega
theorem sTexts_ok {l : List Tk} : ∀ (n : Nat) (s : List (List UInt8)) (p : Nat) {t : List (List UInt8)} {q : Nat}, sTexts l n s p = .ok (t, q) → p < q ∧ q ≤ l.length
 | 0, s, p, t, q, h => by cases h
 | n + 1, s, p, t, q, h => by
  unfold sTexts at h
  split at h
  ·cases h
  rename_i x r hx
  have h1 := sText_ok hx
  split at h
  ·rename_i hc
   have := tkIs_lt hc
   have := sTexts_ok n _ _ h
   omega
  split at h
  ·cases h
  rename_i u hu
  have h3 := sWant_ok hu
  injection h with h
  injection h with h4 h5
  omega
theorem sReserved_ok {l : List Tk} {p q : Nat} {x : List (Int × Int) × List (List UInt8)} (h : sReserved l p = .ok (x, q)) : p < q ∧ q ≤ l.length := by
 unfold sReserved at h
 split at h
 ·split at h
  ·cases h
  rename_i ts r hr
  have h1 := sTexts_ok _ _ _ hr
  injection h with h
  injection h with h4 h5
  omega
 ·split at h
  ·cases h
  rename_i ts r hr
  have h1 := sRanges_ok _ _ _ hr
  injection h with h
  injection h with h4 h5
  omega
def Steps (l : List Tk) {α : Type} (f : Nat → Ans8 (α × Nat)) : Prop := ∀ p x q, f p = .ok (x, q) → p < q ∧ q ≤ l.length
theorem sPart_ok {l : List Tk} {sub : Nat → Ans8 (Msg × Nat)} (hsub : Steps l sub) {m m' : Msg} {p q : Nat} (h : sPart l sub m p = .ok (m', q)) : p < q ∧ q ≤ l.length := by
 simp only [sPart] at h
 split at h
 ·split at h
  ·cases h
  rename_i k r hr
  have h1 := hsub _ _ _ hr
  injection h with h
  injection h with h4 h5
  omega
 split at h
 ·split at h
  ·cases h
  rename_i k r hr
  have h1 := sEnum_ok hr
  injection h with h
  injection h with h4 h5
  omega
 split at h
 ·split at h
  ·cases h
  rename_i k r hr
  have h1 := sOneof_ok hr
  injection h with h
  injection h with h4 h5
  omega
 split at h
 ·split at h
  ·cases h
  rename_i k r hr
  have h1 := sReserved_ok hr
  injection h with h
  injection h with h4 h5
  omega
 split at h
 ·cases h
 rename_i k r hr
 injection h with h
 injection h with h4 h5
 split at hr
 ·have := sField_ok hr; omega
 split at hr
 ·have := sField_ok hr; omega
 split at hr
 ·have := sMapped_ok hr; omega
 ·have := sField_ok hr; omega
theorem sBody_ok {l : List Tk} {sub : Nat → Ans8 (Msg × Nat)} (hsub : Steps l sub) : ∀ (n : Nat) (m : Msg) (p : Nat) {m' : Msg} {q : Nat}, p ≤ l.length → sBody l sub n m p = .ok (m', q) → p < q ∧ q ≤ l.length
 | 0, m, p, m', q, hp, h => by cases h
 | n + 1, m, p, m', q, hp, h => by
  have hs := semis_le hp
  simp only [sBody] at h
  split at h
  ·rename_i h1
   have := tkIs_lt h1
   injection h with h
   injection h with h2 h3
   omega
  split at h
  ·cases h
  rename_i v r hv
  have h1 := sPart_ok hsub hv
  have := sBody_ok hsub n _ _ (by omega) h
  omega
theorem sMessage_ok (l : List Tk) : ∀ d, Steps l (sMessage l d)
 | 0, p, x, q, h => by
  unfold sMessage at h
  split at h <;> cases h
 | d + 1, p, x, q, h => by
  unfold sMessage at h
  split at h
  ·cases h
  rename_i y r hx
  split at h
  ·cases h
  rename_i s hs
  have h1 := sName_ok hx
  have h2 := sWant_ok hs
  have h3 := sBody_ok (sMessage_ok l d) _ _ _ (by omega) h
  omega
end Go.Proofs.YtekeanikgcpijaaDoor
namespace Go.Proofs.YtekeanikgcpijaaDoor
open Go.RowKit
def tkD (x : Tk) : List Dat := [.cell (.int .i64 (x.1.k : Int)), .cell (.string (str x.1.t)), .cell (.int .i64 (x.1.n : Int)), .cell (.int .i64 (x.2.1 : Int)), .cell (.int .i64 (x.2.2 : Int))]
theorem tkD_len (x : Tk) : (tkD x).length = 5 := rfl
abbrev tksP (l : List Tk) : Part := .one (.row 5 l.length (l.flatMap tkD))
abbrev txsP (l : List (List UInt8)) : Part := .one (.row 1 l.length (l.flatMap textDats))
abbrev iP (z : Int) : Part := .one (.cell (.int .i64 z))
abbrev sP (t : List UInt8) : Part := .one (.cell (.string (str t)))
abbrev bP (b : Bool) : Part := .one (.cell (.bool b))
def tk0 : Tk := (⟨0, [], 0⟩, 0, 0)
def tkAt (l : List Tk) (p : Nat) : Tk := l.getD p tk0
theorem tkAt_lt {l : List Tk} {p : Nat} (h : p < l.length) : l[p]? = some (tkAt l p) := by
 unfold tkAt
 rw [List.getD_eq_getElem?_getD, List.getElem?_eq_getElem h]
 rfl
theorem tkAt_of {l : List Tk} {p : Nat} {x : Tk} (h : l[p]? = some x) : tkAt l p = x := by
 unfold tkAt
 rw [List.getD_eq_getElem?_getD, h]
 rfl
theorem int_eq (a b : Nat) : decide ((a : Int) = (b : Int)) = decide (a = b) := by
 by_cases h : a = b
 ·simp [h]
 ·rw [decide_eq_false h, decide_eq_false (by omega)]
theorem int_lt (a b : Nat) : decide ((a : Int) < (b : Int)) = decide (a < b) := by
 by_cases h : a < b
 ·rw [decide_eq_true h, decide_eq_true (by omega)]
 ·rw [decide_eq_false h, decide_eq_false (by omega)]
abbrev tkP (x : Tk) : Part := .many (tkD x)
theorem not_t {b : Bool} (h : (!b) = true) : b = false := by cases b <;> simp_all
theorem not_f {b : Bool} (h : (!b) = false) : b = true := by cases b <;> simp_all
end Go.Proofs.YtekeanikgcpijaaDoor
namespace Go.Proofs.YtekeanikgcpijaaDoor
open Go.RowKit
def kindT : List UInt8 → Nat
 | [] => 4
 | c :: _ => if 97 ≤ c.toNat ∧ c.toNat ≤ 122 then 1 else 4
def sWants (l : List Tk) : List (List UInt8) → Nat → Ans8 Nat
 | [], p => .ok p
 | t :: ts, p =>
  match sWant l (kindT t) t p with
  | .error e => .error e
  | .ok q => sWants l ts q
theorem sWants_one (l : List Tk) (t : List UInt8) (p : Nat) : sWants l [t] p = sWant l (kindT t) t p := by
 unfold sWants
 cases sWant l (kindT t) t p <;> rfl
end Go.Proofs.YtekeanikgcpijaaDoor
namespace Go.Proofs.YtekeanikgcpijaaDoor
open Go.RowKit
def Res {β : Type} (r : Ans8 β) (v : β) (a b : Nat) : Prop := (b = 0 ∧ a = 0 ∧ r = .ok v) ∨ (b ≠ 0 ∧ r = .error (a, b))
theorem Res.bad {β : Type} {r : Ans8 β} {v : β} {a b : Nat} (hr : Res r v a b) (h : (!decide ((b : Int) = 0)) = true) : b ≠ 0 ∧ r = .error (a, b) := by
 have h1 : b ≠ 0 := by
  intro e
  subst e
  simp at h
 rcases hr with ⟨e, _⟩ | h2
 ·exact absurd e h1
 ·exact h2
theorem Res.ok {β : Type} {r : Ans8 β} {v : β} {a b : Nat} (hr : Res r v a b) (h : (!decide ((b : Int) = 0)) = false) : a = 0 ∧ b = 0 ∧ r = .ok v := by
 have h1 : b = 0 := by
  simpa using h
 rcases hr with ⟨e1, e2, e3⟩ | h2
 ·exact ⟨e2, e1, e3⟩
 ·exact absurd h1 h2.1
theorem Res.good {β : Type} {r : Ans8 β} {v : β} (h : r = .ok v) : Res r v 0 0 := .inl ⟨rfl, rfl, h⟩
theorem EFx.mono {P : Program} {gls : List (Nat × List Value)} {f : FuncId} {ps : List Part} {Y Z : IV → Prop} (h : EFx P gls f ps Y) (hi : ∀ y, Y y → Z y) : EFx P gls f ps Z := fun w D vs a b c => (h w D vs a b c).mono fun _ _ ⟨v, y, h1, h2, h3⟩ => ⟨v, y, h1, hi y h2, h3⟩
structure TksOk (l : List Tk) : Prop where
 len : l.length ≤ 100000
 txt : ∀ p, (tkAt l p).1.t.length ≤ 100000
 num : ∀ p, (tkAt l p).1.n ≤ 1000000000000
end Go.Proofs.YtekeanikgcpijaaDoor
