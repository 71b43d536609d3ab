/- Part 1 of what the last text of this claim is proved by: walks over the program, and the math behind them. Conditions: as each theorem says. -/
import Derived.Test.YtagoikglbifhmaaGreatDoorProg
import Derived.Lib.ParseIntB
import Derived.Lib.ParseIntBCases
import Derived.Lib.ItoaNum
import Derived.Lib.Bytealg
import Derived.Laws.BitsLemmas
import Derived.WalkKit
import Derived.Lib.Hide
import Derived.Laws.CopyOwn
import Derived.Laws.AppendOwnNone
import Derived.Deep.Draws
import Derived.Deep.AppendLies
import Derived.Deep.OwnRows
import Derived.Maps.AppendAt
import Derived.RegionTactic
import Derived.OwnWalk
namespace Go.Proofs.YtagoikglbifhmaaGreatDoor
open Go
inductive Vl where
  | mk (kind : Int) (num : Nat) (text : List UInt8) (fields : List (Int × Vl)) (rest : List UInt8) (list : List Vl) (pairs : List (Vl × Vl))
instance : Inhabited Vl := ⟨.mk 0 0 [] [] [] [] []⟩
namespace Vl
def kind : Vl → Int | .mk k _ _ _ _ _ _ => k
def num : Vl → Nat | .mk _ n _ _ _ _ _ => n
def text : Vl → List UInt8 | .mk _ _ t _ _ _ _ => t
def fields : Vl → List (Int × Vl) | .mk _ _ _ f _ _ _ => f
def rest : Vl → List UInt8 | .mk _ _ _ _ r _ _ => r
def list : Vl → List Vl | .mk _ _ _ _ _ l _ => l
def pairs : Vl → List (Vl × Vl) | .mk _ _ _ _ _ _ p => p
section
variable (k : Int) (n : Nat) (t : List UInt8) (fs : List (Int × Vl)) (r : List UInt8) (ls : List Vl) (ps : List (Vl × Vl))
theorem kind_mk : (mk k n t fs r ls ps).kind = k := rfl
theorem num_mk : (mk k n t fs r ls ps).num = n := rfl
theorem text_mk : (mk k n t fs r ls ps).text = t := rfl
theorem fields_mk : (mk k n t fs r ls ps).fields = fs := rfl
theorem rest_mk : (mk k n t fs r ls ps).rest = r := rfl
theorem list_mk : (mk k n t fs r ls ps).list = ls := rfl
theorem pairs_mk : (mk k n t fs r ls ps).pairs = ps := rfl
end
theorem eta (v : Vl) : v = .mk v.kind v.num v.text v.fields v.rest v.list v.pairs := by cases v; rfl
theorem field_lt {v : Vl} {f : Int × Vl} (h : f ∈ v.fields) : SizeOf.sizeOf f.2 < SizeOf.sizeOf v := by
  cases v with
  | mk k n t fs r l p =>
    have h1 := List.sizeOf_lt_of_mem (show f ∈ fs from h)
    obtain ⟨m, x⟩ := f
    simp at h1 ⊢
    omega
theorem list_lt {v x : Vl} (h : x ∈ v.list) : SizeOf.sizeOf x < SizeOf.sizeOf v := by
  cases v with
  | mk k n t fs r l p =>
    have h1 := List.sizeOf_lt_of_mem (show x ∈ l from h)
    simp at h1 ⊢
    omega
theorem key_lt {v : Vl} {p : Vl × Vl} (h : p ∈ v.pairs) : SizeOf.sizeOf p.1 < SizeOf.sizeOf v ∧ SizeOf.sizeOf p.2 < SizeOf.sizeOf v := by
  cases v with
  | mk k n t fs r l ps =>
    have h1 := List.sizeOf_lt_of_mem (show p ∈ ps from h)
    obtain ⟨x, y⟩ := p
    simp at h1 ⊢
    omega
theorem parts {P : Vl → Prop} (h : ∀ v : Vl, (∀ f ∈ v.fields, P f.2) → (∀ x ∈ v.list, P x) → (∀ p ∈ v.pairs, P p.1 ∧ P p.2) → P v) (v : Vl) : P v := by
  generalize hn : SizeOf.sizeOf v = n
  induction n using Nat.strongRecOn generalizing v with
  | ind n ih =>
    subst hn
    exact h v (fun f hf => ih _ (field_lt hf) _ rfl) (fun x hx => ih _ (list_lt hx) _ rfl) (fun p hp => ⟨ih _ (key_lt hp).1 _ rfl, ih _ (key_lt hp).2 _ rfl⟩)
end Vl
def ncmp (a b : Nat) : Int := if a < b then -1 else if b < a then 1 else 0
def tcmp : List UInt8 → List UInt8 → Int
  | [], [] => 0
  | [], _ :: _ => -1
  | _ :: _, [] => 1
  | x :: a, y :: b => if x.toNat < y.toNat then -1 else if y.toNat < x.toNat then 1 else tcmp a b
mutual
def vcmp : Vl → Vl → Int
  | .mk k n t fs r ls ps, b =>
    if k < b.kind then -1 else if b.kind < k then 1
    else if k = 1 then ncmp n b.num
    else if k = 2 then tcmp t b.text
    else if k = 3 then (if fcmp fs b.fields ≠ 0 then fcmp fs b.fields else tcmp r b.rest)
    else if k = 4 then lcmp ls b.list
    else if k = 5 then pcmp ps b.pairs
    else 0
def fcmp : List (Int × Vl) → List (Int × Vl) → Int
  | [], [] => 0
  | [], _ :: _ => -1
  | _ :: _, [] => 1
  | (m, x) :: a, y :: b => if m < y.1 then -1 else if y.1 < m then 1 else if vcmp x y.2 ≠ 0 then vcmp x y.2 else fcmp a b
def lcmp : List Vl → List Vl → Int
  | [], [] => 0
  | [], _ :: _ => -1
  | _ :: _, [] => 1
  | x :: a, y :: b => if vcmp x y ≠ 0 then vcmp x y else lcmp a b
def pcmp : List (Vl × Vl) → List (Vl × Vl) → Int
  | [], [] => 0
  | [], _ :: _ => -1
  | _ :: _, [] => 1
  | (k, x) :: a, y :: b => if vcmp k y.1 ≠ 0 then vcmp k y.1 else if vcmp x y.2 ≠ 0 then vcmp x y.2 else pcmp a b
end
end Go.Proofs.YtagoikglbifhmaaGreatDoor
namespace Go.Proofs.YtagoikglbifhmaaGreatDoor
open Go
def Tri (x y z : Int) : Prop := (x ≤ 0 → y ≤ 0 → z ≤ 0) ∧ (x < 0 → y ≤ 0 → z < 0) ∧ (x ≤ 0 → y < 0 → z < 0) ∧ (0 ≤ x → 0 ≤ y → 0 ≤ z) ∧ (0 < x → 0 ≤ y → 0 < z) ∧ (0 ≤ x → 0 < y → 0 < z)
def lex (x y : Int) : Int := if x ≠ 0 then x else y
theorem Tri.lex {x1 y1 z1 x2 y2 z2 : Int} (h : Tri x1 y1 z1) (k : x1 = 0 → y1 = 0 → Tri x2 y2 z2) : Tri (lex x1 x2) (lex y1 y2) (lex z1 z2) := by
  by_cases hx : x1 = 0
  · by_cases hy : y1 = 0
    · have hk := k hx hy
      unfold Tri at h hk ⊢
      unfold Proofs.YtagoikglbifhmaaGreatDoor.lex
      subst hx hy
      have hz : z1 = 0 := by omega
      subst hz
      simpa using hk
    · clear k
      unfold Tri at h ⊢
      unfold Proofs.YtagoikglbifhmaaGreatDoor.lex
      repeat' split
      all_goals omega
  · clear k
    unfold Tri at h ⊢
    unfold Proofs.YtagoikglbifhmaaGreatDoor.lex
    repeat' split
    all_goals omega
theorem neg_lex {x y x' y' : Int} (h : x = -x') (k : x = 0 → y = -y') : lex x y = -lex x' y' := by
  unfold lex
  by_cases hx : x = 0
  · have := k hx
    rw [if_neg (by omega), if_neg (by omega)]
    exact this
  · rw [if_pos hx, if_pos (by omega)]
    exact h
theorem lex_zero {x y : Int} (h : lex x y = 0) : x = 0 ∧ y = 0 := by
  unfold lex at h
  split at h <;> omega
def icmp (a b : Int) : Int := if a < b then -1 else if b < a then 1 else 0
theorem icmp_neg (a b : Int) : icmp a b = -icmp b a := by
  unfold icmp
  repeat' split
  all_goals omega
theorem icmp_tri (a b c : Int) : Tri (icmp a b) (icmp b c) (icmp a c) := by
  unfold Tri icmp
  repeat' split
  all_goals omega
theorem icmp_zero {a b : Int} (h : icmp a b = 0) : a = b := by
  unfold icmp at h
  repeat' split at h
  all_goals omega
theorem ncmp_neg (a b : Nat) : ncmp a b = -ncmp b a := by
  unfold ncmp
  repeat' split
  all_goals omega
theorem ncmp_tri (a b c : Nat) : Tri (ncmp a b) (ncmp b c) (ncmp a c) := by
  unfold Tri ncmp
  repeat' split
  all_goals omega
theorem ncmp_zero {a b : Nat} (h : ncmp a b = 0) : a = b := by
  unfold ncmp at h
  repeat' split at h
  all_goals omega
theorem tri_zero : Tri 0 0 0 := by unfold Tri; omega
theorem tcmp_cons (x y : UInt8) (a b : List UInt8) : tcmp (x :: a) (y :: b) = lex (ncmp x.toNat y.toNat) (tcmp a b) := by
  rw [tcmp]
  unfold lex ncmp
  repeat' split
  all_goals omega
theorem tcmp_neg : ∀ a b : List UInt8, tcmp a b = -tcmp b a
  | [], [] => rfl
  | [], _ :: _ => rfl
  | _ :: _, [] => rfl
  | x :: a, y :: b => by
    rw [tcmp_cons, tcmp_cons]
    exact neg_lex (ncmp_neg _ _) fun _ => tcmp_neg a b
theorem tcmp_tri : ∀ a b c : List UInt8, Tri (tcmp a b) (tcmp b c) (tcmp a c)
  | [], [], [] => tri_zero
  | [], [], _ :: _ => by unfold Tri tcmp; omega
  | [], _ :: _, [] => by unfold Tri tcmp; omega
  | [], _ :: _, _ :: _ => by unfold Tri; simp only [tcmp]; omega
  | _ :: _, [], [] => by unfold Tri tcmp; omega
  | _ :: _, [], _ :: _ => by unfold Tri; simp only [tcmp]; omega
  | _ :: _, _ :: _, [] => by unfold Tri; simp only [tcmp]; omega
  | x :: a, y :: b, z :: c => by
    rw [tcmp_cons, tcmp_cons, tcmp_cons]
    exact (ncmp_tri _ _ _).lex fun _ _ => tcmp_tri a b c
theorem u8_eq {x y : UInt8} (h : x.toNat = y.toNat) : x = y := UInt8.toNat_inj.1 h
theorem tcmp_zero : ∀ {a b : List UInt8}, tcmp a b = 0 → a = b
  | [], [], _ => rfl
  | [], _ :: _, h => by simp [tcmp] at h
  | _ :: _, [], h => by simp [tcmp] at h
  | x :: a, y :: b, h => by
    rw [tcmp_cons] at h
    obtain ⟨h1, h2⟩ := lex_zero h
    rw [u8_eq (ncmp_zero h1), tcmp_zero h2]
def body (k : Int) (a b : Vl) : Int :=
  if k = 1 then ncmp a.num b.num else if k = 2 then tcmp a.text b.text else if k = 3 then lex (fcmp a.fields b.fields) (tcmp a.rest b.rest) else if k = 4 then lcmp a.list b.list else if k = 5 then pcmp a.pairs b.pairs else 0
theorem vcmp_eq (a b : Vl) : vcmp a b = lex (icmp a.kind b.kind) (body a.kind a b) := by
  cases a with
  | mk k n t fs r ls ps =>
    rw [vcmp]
    unfold lex icmp body
    simp only [Vl.kind_mk, Vl.num_mk, Vl.text_mk, Vl.fields_mk, Vl.rest_mk, Vl.list_mk, Vl.pairs_mk]
    by_cases h1 : k < b.kind
    · simp [h1]
    · by_cases h2 : b.kind < k
      · simp [h1, h2]
      · simp only [h1, h2, if_false, ne_eq, not_true_eq_false]
        rfl
theorem fcmp_cons (x y : Int × Vl) (a b : List (Int × Vl)) : fcmp (x :: a) (y :: b) = lex (icmp x.1 y.1) (lex (vcmp x.2 y.2) (fcmp a b)) := by
  obtain ⟨m, x⟩ := x
  rw [fcmp]
  unfold lex icmp
  by_cases h1 : m < y.1
  · simp [h1]
  · by_cases h2 : y.1 < m
    · simp [h1, h2]
    · simp [h1, h2]
theorem lcmp_cons (x y : Vl) (a b : List Vl) : lcmp (x :: a) (y :: b) = lex (vcmp x y) (lcmp a b) := by
  rw [lcmp]
  rfl
theorem pcmp_cons (x y : Vl × Vl) (a b : List (Vl × Vl)) : pcmp (x :: a) (y :: b) = lex (vcmp x.1 y.1) (lex (vcmp x.2 y.2) (pcmp a b)) := by
  obtain ⟨k, x⟩ := x
  rw [pcmp]
  rfl
theorem fcmp_neg : ∀ a b : List (Int × Vl), (∀ f ∈ a, ∀ y, vcmp f.2 y = -vcmp y f.2) → fcmp a b = -fcmp b a
  | [], [], _ => by simp [fcmp]
  | [], _ :: _, _ => by simp [fcmp]
  | _ :: _, [], _ => by simp [fcmp]
  | x :: a, y :: b, h => by
    rw [fcmp_cons, fcmp_cons]
    exact neg_lex (icmp_neg _ _) fun _ => neg_lex (h x (.head _) _) fun _ => fcmp_neg a b fun f hf => h f (.tail _ hf)
theorem lcmp_neg : ∀ a b : List Vl, (∀ x ∈ a, ∀ y, vcmp x y = -vcmp y x) → lcmp a b = -lcmp b a
  | [], [], _ => by simp [lcmp]
  | [], _ :: _, _ => by simp [lcmp]
  | _ :: _, [], _ => by simp [lcmp]
  | x :: a, y :: b, h => by
    rw [lcmp_cons, lcmp_cons]
    exact neg_lex (h x (.head _) _) fun _ => lcmp_neg a b fun f hf => h f (.tail _ hf)
theorem pcmp_neg : ∀ a b : List (Vl × Vl), (∀ p ∈ a, ∀ y, vcmp p.1 y = -vcmp y p.1 ∧ vcmp p.2 y = -vcmp y p.2) → pcmp a b = -pcmp b a
  | [], [], _ => by simp [pcmp]
  | [], _ :: _, _ => by simp [pcmp]
  | _ :: _, [], _ => by simp [pcmp]
  | x :: a, y :: b, h => by
    rw [pcmp_cons, pcmp_cons]
    exact neg_lex (h x (.head _) _).1 fun _ => neg_lex (h x (.head _) _).2 fun _ => pcmp_neg a b fun f hf => h f (.tail _ hf)
theorem vcmp_neg (a b : Vl) : vcmp a b = -vcmp b a := by
  revert b
  refine Vl.parts (P := fun a => ∀ b, vcmp a b = -vcmp b a) (fun a hf hl hp b => ?_) a
  rw [vcmp_eq, vcmp_eq]
  refine neg_lex (icmp_neg _ _) fun hk => ?_
  rw [← icmp_zero hk]
  unfold body
  repeat' split
  · exact ncmp_neg _ _
  · exact tcmp_neg _ _
  · exact neg_lex (fcmp_neg _ _ hf) fun _ => tcmp_neg _ _
  · exact lcmp_neg _ _ hl
  · exact pcmp_neg _ _ fun p h y => ⟨(hp p h).1 y, (hp p h).2 y⟩
  · rfl
theorem fcmp_tri : ∀ a b c : List (Int × Vl), (∀ f ∈ a, ∀ y z, Tri (vcmp f.2 y) (vcmp y z) (vcmp f.2 z)) → Tri (fcmp a b) (fcmp b c) (fcmp a c)
  | [], [], [], _ => by unfold Tri; simp [fcmp]
  | [], [], _ :: _, _ => by unfold Tri; simp [fcmp]
  | [], _ :: _, [], _ => by unfold Tri; simp [fcmp]
  | [], _ :: _, _ :: _, _ => by unfold Tri; simp only [fcmp]; omega
  | _ :: _, [], [], _ => by unfold Tri; simp [fcmp]
  | _ :: _, [], _ :: _, _ => by unfold Tri; simp only [fcmp]; omega
  | _ :: _, _ :: _, [], _ => by unfold Tri; simp only [fcmp]; omega
  | x :: a, y :: b, z :: c, h => by
    rw [fcmp_cons, fcmp_cons, fcmp_cons]
    exact (icmp_tri _ _ _).lex fun _ _ => (h x (.head _) _ _).lex fun _ _ => fcmp_tri a b c fun f hf => h f (.tail _ hf)
theorem lcmp_tri : ∀ a b c : List Vl, (∀ x ∈ a, ∀ y z, Tri (vcmp x y) (vcmp y z) (vcmp x z)) → Tri (lcmp a b) (lcmp b c) (lcmp a c)
  | [], [], [], _ => by unfold Tri; simp [lcmp]
  | [], [], _ :: _, _ => by unfold Tri; simp [lcmp]
  | [], _ :: _, [], _ => by unfold Tri; simp [lcmp]
  | [], _ :: _, _ :: _, _ => by unfold Tri; simp only [lcmp]; omega
  | _ :: _, [], [], _ => by unfold Tri; simp [lcmp]
  | _ :: _, [], _ :: _, _ => by unfold Tri; simp only [lcmp]; omega
  | _ :: _, _ :: _, [], _ => by unfold Tri; simp only [lcmp]; omega
  | x :: a, y :: b, z :: c, h => by
    rw [lcmp_cons, lcmp_cons, lcmp_cons]
    exact (h x (.head _) _ _).lex fun _ _ => lcmp_tri a b c fun f hf => h f (.tail _ hf)
theorem pcmp_tri : ∀ a b c : List (Vl × Vl), (∀ p ∈ a, ∀ y z, Tri (vcmp p.1 y) (vcmp y z) (vcmp p.1 z) ∧ Tri (vcmp p.2 y) (vcmp y z) (vcmp p.2 z)) → Tri (pcmp a b) (pcmp b c) (pcmp a c)
  | [], [], [], _ => by unfold Tri; simp [pcmp]
  | [], [], _ :: _, _ => by unfold Tri; simp [pcmp]
  | [], _ :: _, [], _ => by unfold Tri; simp [pcmp]
  | [], _ :: _, _ :: _, _ => by unfold Tri; simp only [pcmp]; omega
  | _ :: _, [], [], _ => by unfold Tri; simp [pcmp]
  | _ :: _, [], _ :: _, _ => by unfold Tri; simp only [pcmp]; omega
  | _ :: _, _ :: _, [], _ => by unfold Tri; simp only [pcmp]; omega
  | x :: a, y :: b, z :: c, h => by
    rw [pcmp_cons, pcmp_cons, pcmp_cons]
    exact (h x (.head _) _ _).1.lex fun _ _ => (h x (.head _) _ _).2.lex fun _ _ => pcmp_tri a b c fun f hf => h f (.tail _ hf)
theorem vcmp_tri (a b c : Vl) : Tri (vcmp a b) (vcmp b c) (vcmp a c) := by
  revert b c
  refine Vl.parts (P := fun a => ∀ b c, Tri (vcmp a b) (vcmp b c) (vcmp a c)) (fun a hf hl hp b c => ?_) a
  rw [vcmp_eq a b, vcmp_eq b c, vcmp_eq a c]
  refine (icmp_tri _ _ _).lex fun h1 h2 => ?_
  rw [← icmp_zero h1]
  unfold body
  repeat' split
  · exact ncmp_tri _ _ _
  · exact tcmp_tri _ _ _
  · exact (fcmp_tri _ _ _ hf).lex fun _ _ => tcmp_tri _ _ _
  · exact lcmp_tri _ _ _ hl
  · exact pcmp_tri _ _ _ fun p h y z => ⟨(hp p h).1 y z, (hp p h).2 y z⟩
  · exact tri_zero
theorem vcmp_self (a : Vl) : vcmp a a = 0 := by
  have := vcmp_neg a a
  omega
theorem lex_in {x y : Int} (h : x = -1 ∨ x = 0 ∨ x = 1) (k : y = -1 ∨ y = 0 ∨ y = 1) : lex x y = -1 ∨ lex x y = 0 ∨ lex x y = 1 := by
  unfold lex
  split <;> omega
theorem ncmp_in (a b : Nat) : ncmp a b = -1 ∨ ncmp a b = 0 ∨ ncmp a b = 1 := by
  unfold ncmp
  repeat' split
  all_goals omega
theorem tcmp_in : ∀ a b : List UInt8, tcmp a b = -1 ∨ tcmp a b = 0 ∨ tcmp a b = 1
  | [], [] => .inr (.inl rfl)
  | [], _ :: _ => .inl rfl
  | _ :: _, [] => .inr (.inr rfl)
  | x :: a, y :: b => by
    rw [tcmp_cons]
    exact lex_in (ncmp_in _ _) (tcmp_in a b)
theorem fcmp_end (a b : List (Int × Vl)) (h : a = [] ∨ b = []) : fcmp a b = ncmp a.length b.length := by
  rcases h with rfl | rfl
  · cases b with
    | nil => simp [fcmp, ncmp]
    | cons y b => simp [fcmp, ncmp]
  · cases a with
    | nil => simp [fcmp, ncmp]
    | cons y b => simp [fcmp, ncmp]
theorem lcmp_end (a b : List Vl) (h : a = [] ∨ b = []) : lcmp a b = ncmp a.length b.length := by
  rcases h with rfl | rfl
  · cases b with
    | nil => simp [lcmp, ncmp]
    | cons y b => simp [lcmp, ncmp]
  · cases a with
    | nil => simp [lcmp, ncmp]
    | cons y b => simp [lcmp, ncmp]
theorem pcmp_end (a b : List (Vl × Vl)) (h : a = [] ∨ b = []) : pcmp a b = ncmp a.length b.length := by
  rcases h with rfl | rfl
  · cases b with
    | nil => simp [pcmp, ncmp]
    | cons y b => simp [pcmp, ncmp]
  · cases a with
    | nil => simp [pcmp, ncmp]
    | cons y b => simp [pcmp, ncmp]
theorem drop_cons {α : Type} {l : List α} {k : Nat} {x : α} (h : l[k]? = some x) : l.drop k = x :: l.drop (k + 1) := by
  have hk := (List.getElem?_eq_some_iff.1 h).1
  rw [List.drop_eq_getElem_cons hk, (List.getElem?_eq_some_iff.1 h).2]
theorem ncmp_drop (a b k : Nat) (ha : k ≤ a) (hb : k ≤ b) : ncmp (a - k) (b - k) = ncmp a b := by
  unfold ncmp
  repeat' split
  all_goals omega
end Go.Proofs.YtagoikglbifhmaaGreatDoor
namespace Go.Proofs.YtagoikglbifhmaaGreatDoor
open Go
def vplain (v : Vl) : Bool :=
  decide (0 ≤ v.kind) && decide (v.kind ≤ 5) && (decide (v.kind = 1) || decide (v.num = 0)) && (decide (v.kind = 2) || decide (v.text.length = 0)) && (decide (v.kind = 3) || decide (v.fields.length + v.rest.length = 0)) && (decide (v.kind = 4) == decide (0 < v.list.length)) && (decide (v.kind = 5) == decide (0 < v.pairs.length))
def vone (v : Vl) : Bool := decide (v.kind = 1) || decide (v.kind = 2) || decide (v.kind = 3)
mutual
def vright : Vl → Bool
  | .mk k n t fs r ls ps => vplain (.mk k n t fs r ls ps) && fright 0 fs && lright ls && pright none ps
def fright : Int → List (Int × Vl) → Bool
  | _, [] => true
  | prev, (n, x) :: fs => decide (1 ≤ n) && decide (n ≤ 536870911) && decide (prev < n) && decide (x.kind ≠ 0) && vright x && fright n fs
def lright : List Vl → Bool
  | [] => true
  | x :: ls => vone x && vright x && lright ls
def pright : Option Vl → List (Vl × Vl) → Bool
  | _, [] => true
  | prev, (k, x) :: ps => decide (k.kind ≤ 2) && vone k && vright k && vone x && vright x && (match prev with | none => true | some q => decide (q.kind = k.kind) && decide (vcmp q k < 0)) && pright (some k) ps
end
mutual
def vnodes : Vl → Nat
  | .mk _ _ _ fs _ ls ps => 1 + lnodes ls + fnodes fs + pnodes ps
def fnodes : List (Int × Vl) → Nat
  | [] => 0
  | (_, x) :: fs => vnodes x + fnodes fs
def lnodes : List Vl → Nat
  | [] => 0
  | x :: ls => vnodes x + lnodes ls
def pnodes : List (Vl × Vl) → Nat
  | [] => 0
  | (k, x) :: ps => vnodes k + vnodes x + pnodes ps
end
theorem vright_eq (v : Vl) : vright v = (vplain v && fright 0 v.fields && lright v.list && pright none v.pairs) := by
  cases v
  rw [vright]
  rfl
theorem vnodes_eq (v : Vl) : vnodes v = 1 + lnodes v.list + fnodes v.fields + pnodes v.pairs := by
  cases v
  rw [vnodes]
  rfl
theorem fnodes_mem {fs : List (Int × Vl)} {f : Int × Vl} (h : f ∈ fs) : vnodes f.2 ≤ fnodes fs := by
  induction fs with
  | nil => cases h
  | cons g fs ih =>
    obtain ⟨n, x⟩ := g
    rw [fnodes]
    rcases List.mem_cons.1 h with h | h
    · rw [h]; simp
    · have := ih h; omega
theorem lnodes_mem {ls : List Vl} {x : Vl} (h : x ∈ ls) : vnodes x ≤ lnodes ls := by
  induction ls with
  | nil => cases h
  | cons g ls ih =>
    rw [lnodes]
    rcases List.mem_cons.1 h with h | h
    · rw [h]; omega
    · have := ih h; omega
theorem pnodes_mem {ps : List (Vl × Vl)} {p : Vl × Vl} (h : p ∈ ps) : vnodes p.1 + vnodes p.2 ≤ pnodes ps := by
  induction ps with
  | nil => cases h
  | cons g ps ih =>
    obtain ⟨k, x⟩ := g
    rw [pnodes]
    rcases List.mem_cons.1 h with h | h
    · rw [h]; simp
    · have := ih h; omega
theorem vnodes_pos (v : Vl) : 0 < vnodes v := by rw [vnodes_eq]; omega
theorem fnodes_len : ∀ fs : List (Int × Vl), fs.length ≤ fnodes fs
  | [] => Nat.le_refl _
  | (n, x) :: fs => by
    rw [fnodes, List.length_cons]
    have := fnodes_len fs
    have := vnodes_pos x
    omega
theorem lnodes_len : ∀ ls : List Vl, ls.length ≤ lnodes ls
  | [] => Nat.le_refl _
  | x :: ls => by
    rw [lnodes, List.length_cons]
    have := lnodes_len ls
    have := vnodes_pos x
    omega
theorem pnodes_len : ∀ ps : List (Vl × Vl), ps.length ≤ pnodes ps
  | [] => Nat.le_refl _
  | (k, x) :: ps => by
    rw [pnodes, List.length_cons]
    have := pnodes_len ps
    have := vnodes_pos x
    omega
theorem vplain_iff (v : Vl) : vplain v = true ↔ 0 ≤ v.kind ∧ v.kind ≤ 5 ∧ (v.kind ≠ 1 → v.num = 0) ∧ (v.kind ≠ 2 → v.text = []) ∧ (v.kind ≠ 3 → v.fields = [] ∧ v.rest = []) ∧ (v.kind = 4 ↔ v.list ≠ []) ∧ (v.kind = 5 ↔ v.pairs ≠ []) := by
  have e : ∀ {α : Type} (l : List α), 0 < l.length ↔ l ≠ [] := fun l => List.length_pos_iff
  have e2 : v.fields.length + v.rest.length = 0 ↔ v.fields = [] ∧ v.rest = [] := by rw [Nat.add_eq_zero_iff, List.length_eq_zero_iff, List.length_eq_zero_iff]
  unfold vplain
  simp only [Bool.and_eq_true, Bool.or_eq_true, decide_eq_true_eq, beq_iff_eq, decide_eq_decide, e, e2, List.length_eq_zero_iff]
  constructor
  · rintro ⟨⟨⟨⟨⟨⟨a, b⟩, c⟩, d⟩, f⟩, g⟩, h⟩
    exact ⟨a, b, fun h => c.resolve_left h, fun h => d.resolve_left h, fun h => f.resolve_left h, g, h⟩
  · rintro ⟨a, b, c, d, f, g, h⟩
    exact ⟨⟨⟨⟨⟨⟨a, b⟩, Decidable.or_iff_not_imp_left.2 c⟩, Decidable.or_iff_not_imp_left.2 d⟩, Decidable.or_iff_not_imp_left.2 f⟩, g⟩, h⟩
end Go.Proofs.YtagoikglbifhmaaGreatDoor
namespace Go.Proofs.YtagoikglbifhmaaGreatDoor
open Go
structure St where
  kind : Int
  num : Int
  to : Int
  key : Vl
abbrev vnone : Vl := .mk 0 0 [] [] [] [] []
instance : Inhabited St := ⟨⟨0, 0, 0, vnone⟩⟩
def hexs : List UInt8 := [48, 49, 50, 51, 52, 53, 54, 55, 56, 57, 97, 98, 99, 100, 101, 102]
def hexd (n : Nat) : UInt8 := hexs.getD n 0
def hx (l : List UInt8) : List UInt8 := l.flatMap fun c => [hexd (c.toNat / 16), hexd (c.toNat % 16)]
def hidx (c : UInt8) : Int := Lib.indexByte hexs c
def hbn (h l : Int) : Int := IntKind.u8.wrap (IntKind.i64.wrap ((BitVec.ofInt 64 (IntKind.i64.wrap (h * 2 ^ 4)) ||| BitVec.ofInt 64 l).toNat : Int))
def hb (h l : Int) : UInt8 := UInt8.ofNat (hbn h l).toNat
def unhx : List UInt8 → List UInt8
  | a :: b :: r => hb (hidx a) (hidx b) :: unhx r
  | _ => []
theorem hbn_in (h l : Int) : 0 ≤ hbn h l ∧ hbn h l < 256 := by
  unfold hbn
  rw [IntKind.wrap_u8]
  omega
theorem hb_toNat (h l : Int) : ((hb h l).toNat : Int) = hbn h l := by
  have := hbn_in h l
  unfold hb
  rw [UInt8.toNat_ofNat']
  omega
theorem hb_hex : ∀ n : Fin 256, hb (hidx (hexd (n.1 / 16))) (hidx (hexd (n.1 % 16))) = UInt8.ofNat n.1 := by decide +kernel
theorem unhx_hx : ∀ l : List UInt8, unhx (hx l) = l
  | [] => rfl
  | c :: l => by
    show hb (hidx (hexd (c.toNat / 16))) (hidx (hexd (c.toNat % 16))) :: unhx (hx l) = c :: l
    rw [hb_hex ⟨c.toNat, UInt8.toNat_lt c⟩, unhx_hx l]
    simp
theorem hx_len (l : List UInt8) : (hx l).length = 2 * l.length := by
  induction l with
  | nil => rfl
  | cons c l ih =>
    show (hexd (c.toNat / 16) :: hexd (c.toNat % 16) :: hx l).length = _
    simp only [List.length_cons, ih]
    omega
theorem hexd_in : ∀ n : Fin 16, hexd n.1 ∈ hexs := by decide +kernel
theorem hx_mem {l : List UInt8} {c : UInt8} (h : c ∈ hx l) : c ∈ hexs := by
  unfold hx at h
  obtain ⟨d, _, h2⟩ := List.mem_flatMap.1 h
  have hd := UInt8.toNat_lt d
  simp only [List.mem_cons, List.not_mem_nil, or_false] at h2
  rcases h2 with rfl | rfl
  · exact hexd_in ⟨d.toNat / 16, by omega⟩
  · exact hexd_in ⟨d.toNat % 16, by omega⟩
def isDig (c : UInt8) : Bool := decide (48 ≤ c.toNat) && decide (c.toNat ≤ 57)
def cutB (c : UInt8) (l : List UInt8) : List UInt8 := l.takeWhile (· != c)
def cutA (c : UInt8) (l : List UInt8) : List UInt8 := (l.dropWhile (· != c)).drop 1
def cutF (c : UInt8) (l : List UInt8) : Bool := l.contains c
def trimQ (l : List UInt8) : List UInt8 := if l.getLast? = some 39 then l.dropLast else l
def numOf (l : List UInt8) : Int := match Lib.atoiAll l with | .ok v => v | _ => -1
def ktxt (l : List UInt8) : Vl := .mk 2 0 l [] [] [] []
def knum (n : Nat) : Vl := .mk 1 n [] [] [] [] []
def keyOf (l : List UInt8) : Vl :=
  match l with
  | 39 :: r => ktxt (unhx (trimQ r))
  | l => match Lib.parseUintB 64 l with | .ok u => knum u | _ => vnone
def numbered (k : Int) (l : List UInt8) : St × List UInt8 := (⟨k, numOf (l.takeWhile isDig), 0, vnone⟩, l.dropWhile isDig)
def listed (l : List UInt8) : St := if cutF 58 l then ⟨5, numOf (cutB 58 l), numOf (cutA 58 l), vnone⟩ else ⟨3, numOf (cutB 58 l), 0, vnone⟩
def fst1 (c : UInt8) (l : List UInt8) : St × List UInt8 :=
  if c = 46 then numbered 1 l else if c = 124 then numbered 6 l else if c = 126 then (⟨4, 0, 0, vnone⟩, l)
  else if c = 123 then (⟨2, 0, 0, keyOf (cutB 125 l)⟩, cutA 125 l) else if c = 91 then (listed (cutB 93 l), cutA 93 l) else (default, [])
theorem dropWhile_le {α : Type} (p : α → Bool) (l : List α) : (l.dropWhile p).length ≤ l.length := (List.dropWhile_sublist p).length_le
theorem takeWhile_le {α : Type} (p : α → Bool) (l : List α) : (l.takeWhile p).length ≤ l.length := (List.takeWhile_sublist p).length_le
theorem cutA_le (c : UInt8) (l : List UInt8) : (cutA c l).length ≤ l.length := by
  have := dropWhile_le (· != c) l
  unfold cutA
  rw [List.length_drop]
  omega
theorem cutB_le (c : UInt8) (l : List UInt8) : (cutB c l).length ≤ l.length := takeWhile_le _ l
theorem fst1_le (c : UInt8) (l : List UInt8) : (fst1 c l).2.length ≤ l.length := by
  have h1 := dropWhile_le isDig l
  have h2 := cutA_le 125 l
  have h3 := cutA_le 93 l
  unfold fst1
  repeat' split
  all_goals first | exact h1 | exact h2 | exact h3 | exact Nat.le_refl _ | exact Nat.zero_le _
def psteps : List UInt8 → List St
  | [] => []
  | c :: l => (fst1 c l).1 :: psteps (fst1 c l).2
termination_by l => l.length
decreasing_by
  have := fst1_le c l
  simp only [List.length_cons]
  omega
theorem psteps_cons (c : UInt8) (l : List UInt8) : psteps (c :: l) = (fst1 c l).1 :: psteps (fst1 c l).2 := by rw [psteps]
theorem psteps_len : ∀ l : List UInt8, (psteps l).length ≤ l.length
  | [] => by rw [psteps]; exact Nat.le_refl _
  | c :: l => by
    have h := fst1_le c l
    have := psteps_len (fst1 c l).2
    rw [psteps_cons, List.length_cons, List.length_cons]
    omega
termination_by l => l.length
decreasing_by
  have := fst1_le c l
  simp only [List.length_cons]
  omega
def snumR (s : St) : Bool := if s.kind = 2 ∨ s.kind = 4 then decide (s.num = 0) else decide (0 ≤ s.num) && decide (s.num ≤ 1073741824)
def stoR (s : St) : Bool := if s.kind = 5 then decide (s.num ≤ s.to) && decide (s.to ≤ 1073741824) else decide (s.to = 0)
def skeyF (s : St) : Bool := if s.kind = 2 then decide (s.key.kind = 1) || (decide (s.key.kind = 2) && decide (s.key.text.length ≤ 4096)) else decide (s.key.kind = 0)
def srt (s : St) : Bool := decide (1 ≤ s.kind) && decide (s.kind ≤ 6) && snumR s && stoR s && (skeyF s && vright s.key)
def keyT (k : Vl) : List UInt8 := if k.kind = 1 then Lib.decDigits k.num else 39 :: (hx k.text ++ [39])
def stT (s : St) : List UInt8 :=
  if s.kind = 1 then 46 :: Lib.itoa s.num
  else if s.kind = 2 then 123 :: (keyT s.key ++ [125])
  else if s.kind = 3 then 91 :: (Lib.itoa s.num ++ [93])
  else if s.kind = 4 then [126]
  else if s.kind = 5 then 91 :: (Lib.itoa s.num ++ 58 :: (Lib.itoa s.to ++ [93]))
  else 124 :: Lib.itoa s.num
def ptext (p : List St) : List UInt8 := if p.all srt then p.flatMap stT else []
theorem dec_dig (u : Nat) : ∀ c ∈ Lib.decDigits u, isDig c = true := by
  induction u using Nat.strongRecOn with
  | _ u ih =>
    intro c hc
    rw [Lib.decDigits] at hc
    split at hc
    · rename_i h
      simp only [List.mem_cons, List.not_mem_nil, or_false] at hc
      subst hc
      have : (UInt8.ofNat (48 + u)).toNat = 48 + u := by rw [UInt8.toNat_ofNat']; omega
      unfold isDig
      rw [this]
      simp
      omega
    · rename_i h
      rcases List.mem_append.1 hc with hc | hc
      · exact ih (u / 10) (by omega) c hc
      · simp only [List.mem_cons, List.not_mem_nil, or_false] at hc
        subst hc
        have : (UInt8.ofNat (48 + u % 10)).toNat = 48 + u % 10 := by rw [UInt8.toNat_ofNat']; omega
        unfold isDig
        rw [this]
        simp
        omega
theorem dec_cons (u : Nat) : ∃ c r, Lib.decDigits u = c :: r ∧ isDig c = true := by
  cases h : Lib.decDigits u with
  | nil =>
    exfalso
    rw [Lib.decDigits] at h
    split at h
    · cases h
    · simp at h
  | cons c r => exact ⟨c, r, rfl, dec_dig u c (by rw [h]; exact List.mem_cons_self)⟩
theorem parse_dec (u : Nat) : u < 18446744073709551616 → ∀ r, Lib.parseUint10 0 (Lib.decDigits u ++ r) = Lib.parseUint10 u r := by
  induction u using Nat.strongRecOn with
  | _ u ih =>
    intro hu r
    rw [Lib.decDigits]
    split
    · rename_i h
      have e : (UInt8.ofNat (48 + u)).toNat = 48 + u := by rw [UInt8.toNat_ofNat']; omega
      rw [List.singleton_append, Lib.parseUint10, e, if_pos (by omega), if_neg (by omega), if_neg (by omega)]
      congr 1
      omega
    · rename_i h
      have e : (UInt8.ofNat (48 + u % 10)).toNat = 48 + u % 10 := by rw [UInt8.toNat_ofNat']; omega
      rw [List.append_assoc, ih (u / 10) (by omega) (by omega), List.singleton_append, Lib.parseUint10, e, if_pos (by omega), if_neg (by omega), if_neg (by omega)]
      congr 1
      omega
theorem mag_dec {u : Nat} (hu : u < 18446744073709551616) : Lib.parseMag (Lib.decDigits u) = .ok u := by
  obtain ⟨c, r, hc, _⟩ := dec_cons u
  have h := parse_dec u hu []
  rw [List.append_nil] at h
  unfold Lib.parseMag
  rw [if_neg (by rw [hc]; simp), h]
  rfl
theorem atoi_dec {u : Nat} (hu : u < 9223372036854775808) : Lib.atoiAll (Lib.decDigits u) = .ok (u : Int) := by
  obtain ⟨c, r, hc, hd⟩ := dec_cons u
  have hm := mag_dec (u := u) (by omega)
  unfold isDig at hd
  simp only [Bool.and_eq_true, decide_eq_true_eq] at hd
  rw [hc] at hm ⊢
  simp only [Lib.atoiAll]
  rw [if_neg (by omega), hm]
  simp only
  rw [if_neg (by omega), if_neg (by omega), if_neg (by omega)]
theorem itoa_nat {n : Int} (h : 0 ≤ n) : Lib.itoa n = Lib.decDigits n.toNat := if_neg (by omega)
theorem num_itoa {n : Int} (h0 : 0 ≤ n) (h1 : n < 9223372036854775808) : numOf (Lib.itoa n) = n := by
  rw [itoa_nat h0]
  unfold numOf
  rw [atoi_dec (by omega)]
  simp only
  omega
def NoDig (l : List UInt8) : Prop := ∀ c r, l = c :: r → isDig c = false
theorem dropWhile_app {α : Type} {p : α → Bool} {a b : List α} (ha : ∀ x ∈ a, p x = true) (hb : ∀ x r, b = x :: r → p x = false) : (a ++ b).dropWhile p = b ∧ (a ++ b).takeWhile p = a := by
  induction a with
  | nil =>
    rw [List.nil_append]
    cases b with
    | nil => exact ⟨rfl, rfl⟩
    | cons x r => rw [List.dropWhile_cons, List.takeWhile_cons, hb x r rfl]; exact ⟨rfl, rfl⟩
  | cons x a ih =>
    have h1 := ih fun y hy => ha y (List.mem_cons_of_mem _ hy)
    rw [List.cons_append, List.dropWhile_cons, List.takeWhile_cons, ha x List.mem_cons_self]
    exact ⟨h1.1, by rw [if_pos rfl, h1.2]⟩
theorem cut_app {c : UInt8} {a b : List UInt8} (ha : c ∉ a) : cutB c (a ++ c :: b) = a ∧ cutA c (a ++ c :: b) = b ∧ cutF c (a ++ c :: b) = true := by
  have h := dropWhile_app (p := fun x => x != c) (a := a) (b := c :: b) (fun x hx => by
    have : x ≠ c := fun e => ha (e ▸ hx)
    simpa using this) fun x r e => by
    injection e with e1 e2
    subst e1
    simp
  refine ⟨h.2, ?_, by simp [cutF]⟩
  unfold cutA
  rw [h.1]
  rfl
theorem cut_no {c : UInt8} {a : List UInt8} (ha : c ∉ a) : cutB c a = a ∧ cutF c a = false := by
  have h := dropWhile_app (p := fun x => x != c) (a := a) (b := []) (fun x hx => by
    have : x ≠ c := fun e => ha (e ▸ hx)
    simpa using this) fun x r e => by cases e
  rw [List.append_nil] at h
  exact ⟨h.2, by simpa [cutF] using ha⟩
theorem dec_not {u : Nat} {c : UInt8} (hc : isDig c = false) : c ∉ Lib.decDigits u := fun h => by
  have := dec_dig u c h
  rw [hc] at this
  cases this
theorem itoa_not {n : Int} (h0 : 0 ≤ n) {c : UInt8} (hc : isDig c = false) : c ∉ Lib.itoa n := by
  rw [itoa_nat h0]
  exact dec_not hc
theorem numbered_text (k : Int) {n : Int} (h0 : 0 ≤ n) (h1 : n ≤ 1073741824) {r : List UInt8} (hr : NoDig r) : numbered k (Lib.itoa n ++ r) = (⟨k, n, 0, vnone⟩, r) := by
  have h := dropWhile_app (p := isDig) (a := Lib.itoa n) (b := r) (by rw [itoa_nat h0]; exact dec_dig _) hr
  unfold numbered
  rw [h.1, h.2, num_itoa h0 (by omega)]
theorem plain_none {k : Vl} (h : vright k = true) (h0 : k.kind = 0) : k = vnone := by
  rw [vright_eq] at h
  simp only [Bool.and_eq_true] at h
  obtain ⟨_, _, h1, h2, h3, h4, h5⟩ := (vplain_iff k).1 h.1.1.1
  rw [k.eta]
  have e4 : k.list = [] := Classical.byContradiction fun hn => by have := h4.2 hn; omega
  have e5 : k.pairs = [] := Classical.byContradiction fun hn => by have := h5.2 hn; omega
  rw [h0, h1 (by omega), h2 (by omega), (h3 (by omega)).1, (h3 (by omega)).2, e4, e5]
theorem plain_num {k : Vl} (h : vright k = true) (h0 : k.kind = 1) : k = knum k.num := by
  rw [vright_eq] at h
  simp only [Bool.and_eq_true] at h
  obtain ⟨_, _, h1, h2, h3, h4, h5⟩ := (vplain_iff k).1 h.1.1.1
  have e4 : k.list = [] := Classical.byContradiction fun hn => by have := h4.2 hn; omega
  have e5 : k.pairs = [] := Classical.byContradiction fun hn => by have := h5.2 hn; omega
  have e := k.eta
  rw [h0, h2 (by omega), (h3 (by omega)).1, (h3 (by omega)).2, e4, e5] at e
  exact e
theorem plain_txt {k : Vl} (h : vright k = true) (h0 : k.kind = 2) : k = ktxt k.text := by
  rw [vright_eq] at h
  simp only [Bool.and_eq_true] at h
  obtain ⟨_, _, h1, h2, h3, h4, h5⟩ := (vplain_iff k).1 h.1.1.1
  have e4 : k.list = [] := Classical.byContradiction fun hn => by have := h4.2 hn; omega
  have e5 : k.pairs = [] := Classical.byContradiction fun hn => by have := h5.2 hn; omega
  have e := k.eta
  rw [h0, h1 (by omega), (h3 (by omega)).1, (h3 (by omega)).2, e4, e5] at e
  exact e
theorem trimQ_app (l : List UInt8) : trimQ (l ++ [39]) = l := by
  unfold trimQ
  rw [List.getLast?_concat, if_pos rfl, List.dropLast_concat]
theorem keyOf_num {n : Nat} (h : n < 18446744073709551616) : keyOf (Lib.decDigits n) = knum n := by
  obtain ⟨c, r, hc, hd⟩ := dec_cons n
  have hm := mag_dec h
  rw [hc] at hm ⊢
  have h39 : c ≠ 39 := fun e => by rw [e] at hd; exact absurd hd (by decide)
  unfold keyOf
  split
  · rename_i e
    injection e with e1 e2
    exact absurd e1 h39
  · rw [Lib.parseUintB_64, hm]
theorem keyOf_txt (t : List UInt8) : keyOf (39 :: (hx t ++ [39])) = ktxt t := by
  show ktxt (unhx (trimQ (hx t ++ [39]))) = _
  rw [trimQ_app, unhx_hx]
theorem key_no {k : Vl} : (125 : UInt8) ∉ keyT k := by
  unfold keyT
  split
  · exact dec_not (by decide)
  · intro h
    simp only [List.mem_cons, List.mem_append, List.not_mem_nil, or_false] at h
    rcases h with h | h | h
    · exact absurd h (by decide)
    · have := hx_mem h
      revert this
      decide
    · exact absurd h (by decide)
theorem key_back {k : Vl} (h : vright k = true) (hk : k.kind = 1 ∨ k.kind = 2) (hn : k.num < 18446744073709551616) : keyOf (keyT k) = k := by
  rcases hk with h0 | h0
  · unfold keyT
    rw [if_pos h0, keyOf_num hn]
    exact (plain_num h h0).symm
  · unfold keyT
    rw [if_neg (by omega), keyOf_txt]
    exact (plain_txt h h0).symm
theorem st_eq {s : St} {k n t : Int} {v : Vl} (h1 : s.kind = k) (h2 : s.num = n) (h3 : s.to = t) (h4 : s.key = v) : (⟨k, n, t, v⟩ : St) = s := by
  subst h1 h2 h3 h4
  rfl
theorem fst_text {s : St} (hs : srt s = true) (hn : s.key.num < 18446744073709551616) {r : List UInt8} (hr : NoDig r) : ∃ c l, stT s ++ r = c :: l ∧ fst1 c l = (s, r) := by
  unfold srt at hs
  simp only [Bool.and_eq_true, decide_eq_true_eq] at hs
  obtain ⟨⟨⟨⟨a1, a2⟩, a3⟩, a4⟩, a5, a6⟩ := hs
  by_cases k1 : s.kind = 1
  · have hN : 0 ≤ s.num ∧ s.num ≤ 1073741824 := by simpa [snumR, k1] using a3
    have hT : s.to = 0 := by simpa [stoR, k1] using a4
    have hK : s.key.kind = 0 := by simpa [skeyF, k1] using a5
    refine ⟨46, Lib.itoa s.num ++ r, by simp [stT, k1], ?_⟩
    rw [fst1, if_pos rfl, numbered_text 1 hN.1 hN.2 hr, st_eq k1 rfl hT (plain_none a6 hK)]
  by_cases k2 : s.kind = 2
  · have hN : s.num = 0 := by simpa [snumR, k2] using a3
    have hT : s.to = 0 := by simpa [stoR, k2] using a4
    have hK : s.key.kind = 1 ∨ s.key.kind = 2 := by
      have : s.key.kind = 1 ∨ s.key.kind = 2 ∧ s.key.text.length ≤ 4096 := by simpa [skeyF, k2] using a5
      rcases this with h | h
      · exact .inl h
      · exact .inr h.1
    have hc := cut_app (c := 125) (a := keyT s.key) (b := r) key_no
    refine ⟨123, keyT s.key ++ 125 :: r, by simp [stT, k2], ?_⟩
    rw [fst1, if_neg (by decide), if_neg (by decide), if_neg (by decide), if_pos rfl, hc.1, hc.2.1, key_back a6 hK hn, st_eq k2 hN hT rfl]
  by_cases k3 : s.kind = 3
  · have hN : 0 ≤ s.num ∧ s.num ≤ 1073741824 := by simpa [snumR, k3] using a3
    have hT : s.to = 0 := by simpa [stoR, k3] using a4
    have hK : s.key.kind = 0 := by simpa [skeyF, k3] using a5
    have hc := cut_app (c := 93) (a := Lib.itoa s.num) (b := r) (itoa_not hN.1 (by decide))
    have hd := cut_no (c := 58) (a := Lib.itoa s.num) (itoa_not hN.1 (by decide))
    refine ⟨91, Lib.itoa s.num ++ 93 :: r, by simp [stT, k3], ?_⟩
    rw [fst1, if_neg (by decide), if_neg (by decide), if_neg (by decide), if_neg (by decide), if_pos rfl, hc.1, hc.2.1, listed, hd.2, if_neg (by decide), hd.1, num_itoa hN.1 (by omega), st_eq k3 rfl hT (plain_none a6 hK)]
  by_cases k4 : s.kind = 4
  · have hN : s.num = 0 := by simpa [snumR, k4] using a3
    have hT : s.to = 0 := by simpa [stoR, k4] using a4
    have hK : s.key.kind = 0 := by simpa [skeyF, k4] using a5
    refine ⟨126, r, by simp [stT, k4], ?_⟩
    rw [fst1, if_neg (by decide), if_neg (by decide), if_pos rfl, st_eq k4 hN hT (plain_none a6 hK)]
  by_cases k5 : s.kind = 5
  · have hN : 0 ≤ s.num ∧ s.num ≤ 1073741824 := by simpa [snumR, k5] using a3
    have hT : s.num ≤ s.to ∧ s.to ≤ 1073741824 := by simpa [stoR, k5] using a4
    have hK : s.key.kind = 0 := by simpa [skeyF, k5] using a5
    have hc := cut_app (c := 93) (a := Lib.itoa s.num ++ 58 :: Lib.itoa s.to) (b := r) (fun h => by
      simp only [List.mem_append, List.mem_cons] at h
      rcases h with h | h | h
      · exact itoa_not hN.1 (by decide) h
      · exact absurd h (by decide)
      · exact itoa_not (by omega) (by decide) h)
    have hd := cut_app (c := 58) (a := Lib.itoa s.num) (b := Lib.itoa s.to) (itoa_not hN.1 (by decide))
    refine ⟨91, (Lib.itoa s.num ++ 58 :: Lib.itoa s.to) ++ 93 :: r, by simp [stT, k5], ?_⟩
    rw [fst1, if_neg (by decide), if_neg (by decide), if_neg (by decide), if_neg (by decide), if_pos rfl, hc.1, hc.2.1, listed, hd.2.2, if_pos rfl, hd.1, hd.2.1, num_itoa hN.1 (by omega), num_itoa (by omega) (by omega), st_eq k5 rfl rfl (plain_none a6 hK)]
  · have k6 : s.kind = 6 := by omega
    have hN : 0 ≤ s.num ∧ s.num ≤ 1073741824 := by simpa [snumR, k6] using a3
    have hT : s.to = 0 := by simpa [stoR, k6] using a4
    have hK : s.key.kind = 0 := by simpa [skeyF, k6] using a5
    refine ⟨124, Lib.itoa s.num ++ r, by simp [stT, k6], ?_⟩
    rw [fst1, if_neg (by decide), if_pos rfl, numbered_text 6 hN.1 hN.2 hr, st_eq k6 rfl hT (plain_none a6 hK)]
theorem stT_noDig (s : St) (r : List UInt8) : NoDig (stT s ++ r) := fun c l h => by
  unfold stT at h
  repeat' split at h
  all_goals
    injection h with h1 h2
    subst h1
    decide
theorem texts_noDig (p : List St) : NoDig (p.flatMap stT) := by
  cases p with
  | nil => exact fun c l h => by cases h
  | cons s p => rw [List.flatMap_cons]; exact stT_noDig s _
theorem psteps_text : ∀ {p : List St}, p.all srt = true → (∀ s ∈ p, s.key.num < 18446744073709551616) → psteps (p.flatMap stT) = p
  | [], _, _ => by rw [List.flatMap_nil, psteps]
  | s :: p, h, hn => by
    rw [List.all_cons, Bool.and_eq_true] at h
    obtain ⟨c, l, h1, h2⟩ := fst_text h.1 (hn s List.mem_cons_self) (texts_noDig p)
    rw [List.flatMap_cons, h1, psteps_cons, h2, psteps_text h.2 fun t ht => hn t (List.mem_cons_of_mem _ ht)]
end Go.Proofs.YtagoikglbifhmaaGreatDoor
namespace Go.Proofs.YtagoikglbifhmaaGreatDoor
open Go.RowKit
def bv (b : UInt8) : Value := .int .u8 (b.toNat : Int)
def Blk (w : World) (g : Nat) (t : TypeId) (cs : List Value) : Prop := w.heap[g]? = some (.cells cs.toArray t (0, 0))
section
variable {w w' : World} {g : Nat} {t : TypeId} {cs : List Value}
theorem Blk.lt (h : Blk w g t cs) : g < w.heap.size := by
  rcases Nat.lt_or_ge g w.heap.size with hlt | hge
  · exact hlt
  · unfold Blk at h; rw [Array.getElem?_eq_none hge] at h; cases h
theorem Blk.cell (h : Blk w g t cs) (i : Nat) : w.cell? ⟨g, i, none⟩ = cs[i]? := by
  rw [cell_of_row w g i cs.toArray t (0, 0) h]; simp
theorem Blk.frozen (h : Blk w g t cs) (i : Nat) : w.frozen? ⟨g, i, none⟩ = false := by
  unfold Blk at h
  simp [World.frozen?, h]
theorem Blk.new (w : World) (t : TypeId) (cs : List Value) : Blk (w.alloc (.cells cs.toArray t)) w.heap.size t cs := heap_alloc_new w _
theorem Blk.drew (h : Blk w g t cs) : Blk w.drew g t cs := h
theorem Blk.drewN (h : Blk w g t cs) (n : Nat) : Blk (w.drewN n) g t cs := h
theorem Blk.alloc (h : Blk w g t cs) (o : Obj) : Blk (w.alloc o) g t cs := (Below.heap_alloc w o g h.lt).trans h
theorem Blk.set_ (h : Blk w g t cs) (i : Nat) (u : Value) : Blk (w.setCell ⟨g, i, none⟩ u) g t (cs.set i u) := by
  unfold Blk at h ⊢
  simp [World.setCell, Array.getElem?_modify, h]
theorem Blk.below {B : Nat} (h : Blk w g t cs) (hb : Below B w w') (hg : g < B) : Blk w' g t cs := (hb.block g hg).trans h
theorem Blk.kept (h : Blk w g t cs) (hb : Below w.heap.size w w') : Blk w' g t cs := h.below hb h.lt
theorem Blk.grown {row : Option Nat} (h : Blk w g t cs) (hb : w.grownBy w' row) (hg : some g ≠ row) : Blk w' g t cs := (hb.block g h.lt hg).trans h
theorem Blk.same {cs' : List Value} (h : Blk w g t cs) (h' : Blk w g t cs') : cs = cs' := by
  unfold Blk at h h'
  rw [h] at h'
  injection h' with h'
  injection h' with h1 _
  simpa using h1
end
def Sl (w : World) (B : Nat) (p : Option Addr) (l : List UInt8) : Prop :=
  0 < l.length → ∃ b o, p = some ⟨b, o, none⟩ ∧ b < B ∧ ∀ (i : Nat) (x : UInt8), l[i]? = some x → w.cell? ⟨b, o + i, none⟩ = some (bv x)
section
variable {w w' : World} {B B' : Nat} {p : Option Addr} {l : List UInt8}
theorem Sl.nil (w : World) (B : Nat) (p : Option Addr) : Sl w B p [] := fun h => absurd h (Nat.lt_irrefl 0)
theorem Sl.more (h : Sl w B p l) (hB : B ≤ B') : Sl w B' p l := fun hl => by
  obtain ⟨b, o, e, hb, hc⟩ := h hl
  exact ⟨b, o, e, by omega, hc⟩
theorem Sl.below (h : Sl w B p l) (hb : Below B w w') : Sl w' B p l := fun hl => by
  obtain ⟨b, o, e, hlt, hc⟩ := h hl
  exact ⟨b, o, e, hlt, fun i x hx => (hb.cell (p := ⟨b, o + i, none⟩) hlt).trans (hc i x hx)⟩
theorem Sl.src (h : Sl w B p l) (hl : 0 < l.length) : ∃ ad, p = some ad ∧ ∀ j v, (l.map bv)[j]? = some v → w.cell? (ad.add j) = some v := by
  obtain ⟨b, o, rfl, _, hc⟩ := h hl
  refine ⟨_, rfl, fun j v hv => ?_⟩
  rw [List.getElem?_map] at hv
  obtain ⟨x, hx, rfl⟩ := Option.map_eq_some_iff.1 hv
  have e : (⟨b, o, none⟩ : Addr).add j = ⟨b, o + j, none⟩ := by unfold Addr.add; split <;> simp_all
  rw [e]; exact hc j x hx
end
section
variable {P : Program} (w : World)
theorem run_append_of_nil (base : Nat) (t ty e : TypeId) (i : TypeInfo) (size : Nat) (ht : P.underlying t = some (.slice e)) (hi : P.info? e = some i)
    (v : Value) (n : Nat) (xs : List Value) (hown : w.ownsRow base e size v n xs) (c : Nat) : (Builtin.append_ #[t, t] ty #[v, .slice none 0 c]).run P w = .ok v w := by
  rcases hown.2 with ⟨rfl, rfl⟩ | ⟨g, cap, cur, rfl, _, _, hnc, _⟩
  · simp [Builtin.append_, run_underlying ht, sizeOf, typeInfo, hi, Builtin.lenOf, Builtin.firstCells]
  · simp [Builtin.append_, run_underlying ht, sizeOf, typeInfo, hi, Builtin.lenOf, Builtin.firstCells, hnc, storeCells]
end
section
variable {w : World} {base : Nat} {e : TypeId} {v : Value} {n : Nat} {xs : List Value}
end
end Go.Proofs.YtagoikglbifhmaaGreatDoor
