/- Part 8 of what the last text of this claim is proved by: walks over the program, and the math behind them. Conditions: as each theorem says. -/
import Derived.Test.YtlikbiiimhfnkaaVF07
import Derived.Test.YtlikbiiimhfnkaaProg
import Derived.Laws.Entries
import Derived.ChangeArms
import Derived.Deep.Slices
import Derived.Deep.Fields
import Derived.ChangeSame
namespace Go.Proofs.Ytlikbiiimhfnkaa
section
variable {P : Program} {cx : Cx} {T T' : TL} {B : BL} {R : RL} {ops : Array Oper} {Q : Exit → Act → World → Prop} {o : Oper} {l : List Oper} {d : Nat} {y : IV} {x : Operand} {ys : List IV}
theorem l_op (h : LStep P cx B R o T y) (hE : E cx ((d, y) :: T) B R (wpList P ops Q l)) (hg : o.guard = none := by exact rfl) (hd : o.dst = some d := by exact rfl) (hn : Nat.blt d cx.n = true := by exact rfl) : E cx T B R (wpList P ops Q (o :: l)) := e_list_op hg hd hn h hE
theorem l_mv (hE : E cx ((d, y) :: T) B R (wpList P ops Q l)) (hg : o.guard = none := by exact rfl) (hd : o.dst = some d := by exact rfl) (hn : Nat.blt d cx.n = true := by exact rfl) (ho : o.op = .move x := by exact rfl) (hk : ev T x = some y := by exact rfl) : E cx T B R (wpList P ops Q (o :: l)) := e_list_op hg hd hn (s_move ho (kn hk)) hE
theorem l_as (hE : E cx ((d, y) :: T) B R (wpList P ops Q l)) (hg : o.guard = none := by exact rfl) (hd : o.dst = some d := by exact rfl) (hn : Nat.blt d cx.n = true := by exact rfl) (ho : o.op = .assign x := by exact rfl) (hk : ev T x = some y := by exact rfl) : E cx T B R (wpList P ops Q (o :: l)) := e_list_op hg hd hn (s_assign ho (kn hk)) hE
theorem w_op (hg : o.guard = none) (hd : o.dst = some d) (hn : Nat.blt d cx.n = true) (h : LStep P cx B R o T y) (hW : Walk P cx B R ops l ((d, y) :: T) ys T') : Walk P cx B R ops (o :: l) T (y :: ys) T' := .op hg hd hn h hW
theorem w_mv (hg : o.guard = none) (hd : o.dst = some d) (hn : Nat.blt d cx.n = true) (ho : o.op = .move x) (hk : ev T x = some y) (hW : Walk P cx B R ops l ((d, y) :: T) ys T') : Walk P cx B R ops (o :: l) T (y :: ys) T' := .op hg hd hn (s_move ho (kn hk)) hW
theorem w_as (hg : o.guard = none) (hd : o.dst = some d) (hn : Nat.blt d cx.n = true) (ho : o.op = .assign x) (hk : ev T x = some y) (hW : Walk P cx B R ops l ((d, y) :: T) ys T') : Walk P cx B R ops (o :: l) T (y :: ys) T' := .op hg hd hn (s_assign ho (kn hk)) hW
theorem s_t {t : Nat} (h : lk t T = some y := by exact rfl) : ∃ z, lk t T = some z ∧ Imp z y := sub_refl y h
theorem s_b {b : Nat} {z : Bx} (h : lk b B = some z := by exact rfl) : ∃ u, lk b B = some u ∧ u.ty = z.ty ∧ ImpL u.cs z.cs := sb_refl z h
theorem c_no {c : Operand} {a b : Code} (h : E cx T B R (b.wp P Q)) (hc : ev T c = some (.is (.bool false)) := by exact rfl) : E cx T B R ((Code.cond c a b).wp P Q) := e_cond hc (fun h => (by cases h)) fun _ => h
end
end Go.Proofs.Ytlikbiiimhfnkaa
namespace Go.Proofs.Ytlikbiiimhfnkaa
open Go.RowKit
theorem one_3 : oneT Try.prog 3 = true := by kernel_rfl
theorem sz_3 : sizeT Try.prog 3 = some 1 := by kernel_rfl
theorem int_3 : Try.prog.underlying 3 = some (.int .i64) := by kernel_rfl
theorem zr_3 : zeroT Try.prog 3 = some [.int .i64 0] := by kernel_rfl
theorem one_9 : oneT Try.prog 9 = true := by kernel_rfl
theorem sz_9 : sizeT Try.prog 9 = some 1 := by kernel_rfl
theorem str_9 : Try.prog.underlying 9 = some .string := by kernel_rfl
theorem one_22 : oneT Try.prog 22 = true := by kernel_rfl
theorem sz_22 : sizeT Try.prog 22 = some 1 := by kernel_rfl
theorem int_22 : Try.prog.underlying 22 = some (.int .u64) := by kernel_rfl
theorem one_23 : oneT Try.prog 23 = true := by kernel_rfl
theorem sz_23 : sizeT Try.prog 23 = some 1 := by kernel_rfl
theorem sl_23 : Try.prog.underlying 23 = some (.slice 58) := by kernel_rfl
theorem sle_23 : Try.prog.underlying 23 = some (.slice (Try.prog.elem 23)) := by kernel_rfl
theorem esz_23 : sizeT Try.prog (Try.prog.elem 23) = some 8 := by kernel_rfl
theorem ap_23 : (Try.prog.info? 58).map (fun i => (i.size, i.bytes, i.zero.map (·.cells.size))) = some (8, 128, some 8) := by kernel_rfl
theorem zr_23 : zeroT Try.prog 23 = some [.slice none 0 0] := by kernel_rfl
theorem one_24 : oneT Try.prog 24 = true := by kernel_rfl
theorem sz_24 : sizeT Try.prog 24 = some 1 := by kernel_rfl
theorem sle_24 : Try.prog.underlying 24 = some (.slice (Try.prog.elem 24)) := by kernel_rfl
theorem esz_24 : sizeT Try.prog (Try.prog.elem 24) = some 7 := by kernel_rfl
theorem one_25 : oneT Try.prog 25 = true := by kernel_rfl
theorem sz_25 : sizeT Try.prog 25 = some 1 := by kernel_rfl
theorem sl_25 : Try.prog.underlying 25 = some (.slice 62) := by kernel_rfl
theorem sle_25 : Try.prog.underlying 25 = some (.slice (Try.prog.elem 25)) := by kernel_rfl
theorem esz_25 : sizeT Try.prog (Try.prog.elem 25) = some 14 := by kernel_rfl
theorem ap_25 : (Try.prog.info? 62).map (fun i => (i.size, i.bytes, i.zero.map (·.cells.size))) = some (14, 240, some 14) := by kernel_rfl
theorem zr_25 : zeroT Try.prog 25 = some [.slice none 0 0] := by kernel_rfl
theorem agg_27 : aggT Try.prog 27 = true := by kernel_rfl
theorem sz_27 : sizeT Try.prog 27 = some 7 := by kernel_rfl
theorem off_27_0 : foff Try.prog 27 0 = some 0 := by kernel_rfl
theorem off_27_1 : foff Try.prog 27 1 = some 1 := by kernel_rfl
theorem off_27_2 : foff Try.prog 27 2 = some 2 := by kernel_rfl
theorem off_27_3 : foff Try.prog 27 3 = some 3 := by kernel_rfl
theorem off_27_4 : foff Try.prog 27 4 = some 4 := by kernel_rfl
theorem off_27_5 : foff Try.prog 27 5 = some 5 := by kernel_rfl
theorem off_27_6 : foff Try.prog 27 6 = some 6 := by kernel_rfl
theorem pl_27 : placesT Try.prog 27 = some [(0, 1), (1, 1), (2, 1), (3, 1), (4, 1), (5, 1), (6, 1)] := by kernel_rfl
theorem zr_27 : zeroT Try.prog 27 = some [.int .i64 0, .int .u64 0, .string ⟨#[]⟩, .slice none 0 0, .string ⟨#[]⟩, .slice none 0 0, .slice none 0 0] := by kernel_rfl
theorem one_30 : oneT Try.prog 30 = true := by kernel_rfl
theorem sz_30 : sizeT Try.prog 30 = some 1 := by kernel_rfl
theorem sl_30 : Try.prog.underlying 30 = some (.slice 60) := by kernel_rfl
theorem sle_30 : Try.prog.underlying 30 = some (.slice (Try.prog.elem 30)) := by kernel_rfl
theorem esz_30 : sizeT Try.prog (Try.prog.elem 30) = some 8 := by kernel_rfl
theorem ap_30 : (Try.prog.info? 60).map (fun i => (i.size, i.bytes, i.zero.map (·.cells.size))) = some (8, 128, some 8) := by kernel_rfl
theorem one_31 : oneT Try.prog 31 = true := by kernel_rfl
theorem sz_31 : sizeT Try.prog 31 = some 1 := by kernel_rfl
theorem sl_31 : Try.prog.underlying 31 = some (.slice 34) := by kernel_rfl
theorem sle_31 : Try.prog.underlying 31 = some (.slice (Try.prog.elem 31)) := by kernel_rfl
theorem esz_31 : sizeT Try.prog (Try.prog.elem 31) = some 7 := by kernel_rfl
theorem ap_31 : (Try.prog.info? 34).map (fun i => (i.size, i.bytes, i.zero.map (·.cells.size))) = some (7, 120, some 7) := by kernel_rfl
theorem one_32 : oneT Try.prog 32 = true := by kernel_rfl
theorem sz_32 : sizeT Try.prog 32 = some 1 := by kernel_rfl
theorem sl_32 : Try.prog.underlying 32 = some (.slice 64) := by kernel_rfl
theorem sle_32 : Try.prog.underlying 32 = some (.slice (Try.prog.elem 32)) := by kernel_rfl
theorem esz_32 : sizeT Try.prog (Try.prog.elem 32) = some 14 := by kernel_rfl
theorem ap_32 : (Try.prog.info? 64).map (fun i => (i.size, i.bytes, i.zero.map (·.cells.size))) = some (14, 240, some 14) := by kernel_rfl
theorem agg_34 : aggT Try.prog 34 = true := by kernel_rfl
theorem sz_34 : sizeT Try.prog 34 = some 7 := by kernel_rfl
theorem off_34_0 : foff Try.prog 34 0 = some 0 := by kernel_rfl
theorem off_34_1 : foff Try.prog 34 1 = some 1 := by kernel_rfl
theorem off_34_2 : foff Try.prog 34 2 = some 2 := by kernel_rfl
theorem off_34_3 : foff Try.prog 34 3 = some 3 := by kernel_rfl
theorem off_34_4 : foff Try.prog 34 4 = some 4 := by kernel_rfl
theorem off_34_5 : foff Try.prog 34 5 = some 5 := by kernel_rfl
theorem off_34_6 : foff Try.prog 34 6 = some 6 := by kernel_rfl
theorem pl_34 : placesT Try.prog 34 = some [(0, 1), (1, 1), (2, 1), (3, 1), (4, 1), (5, 1), (6, 1)] := by kernel_rfl
theorem zr_34 : zeroT Try.prog 34 = some [.int .i64 0, .int .u64 0, .string ⟨#[]⟩, .slice none 0 0, .string ⟨#[]⟩, .slice none 0 0, .slice none 0 0] := by kernel_rfl
theorem agg_58 : aggT Try.prog 58 = true := by kernel_rfl
theorem sz_58 : sizeT Try.prog 58 = some 8 := by kernel_rfl
theorem off_58_0 : foff Try.prog 58 0 = some 0 := by kernel_rfl
theorem off_58_1 : foff Try.prog 58 1 = some 1 := by kernel_rfl
theorem pl_58 : placesT Try.prog 58 = some [(0, 1), (1, 7)] := by kernel_rfl
theorem zr_58 : zeroT Try.prog 58 = some [.int .i64 0, .int .i64 0, .int .u64 0, .string ⟨#[]⟩, .slice none 0 0, .string ⟨#[]⟩, .slice none 0 0, .slice none 0 0] := by kernel_rfl
theorem agg_60 : aggT Try.prog 60 = true := by kernel_rfl
theorem sz_60 : sizeT Try.prog 60 = some 8 := by kernel_rfl
theorem off_60_0 : foff Try.prog 60 0 = some 0 := by kernel_rfl
theorem off_60_1 : foff Try.prog 60 1 = some 1 := by kernel_rfl
theorem pl_60 : placesT Try.prog 60 = some [(0, 1), (1, 7)] := by kernel_rfl
theorem zr_60 : zeroT Try.prog 60 = some [.int .i64 0, .int .i64 0, .int .u64 0, .string ⟨#[]⟩, .slice none 0 0, .string ⟨#[]⟩, .slice none 0 0, .slice none 0 0] := by kernel_rfl
theorem agg_62 : aggT Try.prog 62 = true := by kernel_rfl
theorem sz_62 : sizeT Try.prog 62 = some 14 := by kernel_rfl
theorem off_62_0 : foff Try.prog 62 0 = some 0 := by kernel_rfl
theorem off_62_1 : foff Try.prog 62 1 = some 7 := by kernel_rfl
theorem pl_62 : placesT Try.prog 62 = some [(0, 7), (7, 7)] := by kernel_rfl
theorem zr_62 : zeroT Try.prog 62 = some [.int .i64 0, .int .u64 0, .string ⟨#[]⟩, .slice none 0 0, .string ⟨#[]⟩, .slice none 0 0, .slice none 0 0, .int .i64 0, .int .u64 0, .string ⟨#[]⟩, .slice none 0 0, .string ⟨#[]⟩, .slice none 0 0, .slice none 0 0] := by kernel_rfl
theorem sz_64 : sizeT Try.prog 64 = some 14 := by kernel_rfl
theorem off_64_0 : foff Try.prog 64 0 = some 0 := by kernel_rfl
theorem off_64_1 : foff Try.prog 64 1 = some 7 := by kernel_rfl
theorem pl_64 : placesT Try.prog 64 = some [(0, 7), (7, 7)] := by kernel_rfl
theorem zr_64 : zeroT Try.prog 64 = some [.int .i64 0, .int .u64 0, .string ⟨#[]⟩, .slice none 0 0, .string ⟨#[]⟩, .slice none 0 0, .slice none 0 0, .int .i64 0, .int .u64 0, .string ⟨#[]⟩, .slice none 0 0, .string ⟨#[]⟩, .slice none 0 0, .slice none 0 0] := by kernel_rfl
theorem sl_92 : Try.prog.underlying 92 = some (.slice 3) := by kernel_rfl
theorem sle_92 : Try.prog.underlying 92 = some (.slice (Try.prog.elem 92)) := by kernel_rfl
theorem esz_92 : sizeT Try.prog (Try.prog.elem 92) = some 1 := by kernel_rfl
theorem int_98 : Try.prog.underlying 98 = some (.int .u64) := by kernel_rfl
theorem sl_99 : Try.prog.underlying 99 = some (.slice 23) := by kernel_rfl
theorem sle_99 : Try.prog.underlying 99 = some (.slice (Try.prog.elem 99)) := by kernel_rfl
theorem esz_99 : sizeT Try.prog (Try.prog.elem 99) = some 1 := by kernel_rfl
theorem sl_101 : Try.prog.underlying 101 = some (.slice 25) := by kernel_rfl
theorem sle_101 : Try.prog.underlying 101 = some (.slice (Try.prog.elem 101)) := by kernel_rfl
theorem esz_101 : sizeT Try.prog (Try.prog.elem 101) = some 1 := by kernel_rfl
theorem mixed : Try.prog.follows .mixedOrders = true := by kernel_rfl
end Go.Proofs.Ytlikbiiimhfnkaa
namespace Go.Proofs.Ytlikbiiimhfnkaa
open Go
inductive Vl where
  | mk (kind : Int) (num : Nat) (text : List UInt8) (fields : List (Int × Vl)) (rest : List UInt8) (list : List Vl) (pairs : List (Vl × Vl))
instance : Inhabited Vl := ⟨.mk 0 0 [] [] [] [] []⟩
namespace Vl
def kind : Vl → Int | .mk k _ _ _ _ _ _ => k
def num : Vl → Nat | .mk _ n _ _ _ _ _ => n
def text : Vl → List UInt8 | .mk _ _ t _ _ _ _ => t
def fields : Vl → List (Int × Vl) | .mk _ _ _ f _ _ _ => f
def rest : Vl → List UInt8 | .mk _ _ _ _ r _ _ => r
def list : Vl → List Vl | .mk _ _ _ _ _ l _ => l
def pairs : Vl → List (Vl × Vl) | .mk _ _ _ _ _ _ p => p
section
variable (k : Int) (n : Nat) (t : List UInt8) (fs : List (Int × Vl)) (r : List UInt8) (ls : List Vl) (ps : List (Vl × Vl))
theorem kind_mk : (mk k n t fs r ls ps).kind = k := rfl
theorem num_mk : (mk k n t fs r ls ps).num = n := rfl
theorem text_mk : (mk k n t fs r ls ps).text = t := rfl
theorem fields_mk : (mk k n t fs r ls ps).fields = fs := rfl
theorem rest_mk : (mk k n t fs r ls ps).rest = r := rfl
theorem list_mk : (mk k n t fs r ls ps).list = ls := rfl
theorem pairs_mk : (mk k n t fs r ls ps).pairs = ps := rfl
end
theorem eta (v : Vl) : v = .mk v.kind v.num v.text v.fields v.rest v.list v.pairs := by cases v; rfl
theorem field_lt {v : Vl} {f : Int × Vl} (h : f ∈ v.fields) : SizeOf.sizeOf f.2 < SizeOf.sizeOf v := by
  cases v with
  | mk k n t fs r l p =>
    have h1 := List.sizeOf_lt_of_mem (show f ∈ fs from h)
    obtain ⟨m, x⟩ := f
    simp at h1 ⊢
    omega
theorem list_lt {v x : Vl} (h : x ∈ v.list) : SizeOf.sizeOf x < SizeOf.sizeOf v := by
  cases v with
  | mk k n t fs r l p =>
    have h1 := List.sizeOf_lt_of_mem (show x ∈ l from h)
    simp at h1 ⊢
    omega
theorem key_lt {v : Vl} {p : Vl × Vl} (h : p ∈ v.pairs) : SizeOf.sizeOf p.1 < SizeOf.sizeOf v ∧ SizeOf.sizeOf p.2 < SizeOf.sizeOf v := by
  cases v with
  | mk k n t fs r l ps =>
    have h1 := List.sizeOf_lt_of_mem (show p ∈ ps from h)
    obtain ⟨x, y⟩ := p
    simp at h1 ⊢
    omega
theorem parts {P : Vl → Prop} (h : ∀ v : Vl, (∀ f ∈ v.fields, P f.2) → (∀ x ∈ v.list, P x) → (∀ p ∈ v.pairs, P p.1 ∧ P p.2) → P v) (v : Vl) : P v := by
  generalize hn : SizeOf.sizeOf v = n
  induction n using Nat.strongRecOn generalizing v with
  | ind n ih =>
    subst hn
    exact h v (fun f hf => ih _ (field_lt hf) _ rfl) (fun x hx => ih _ (list_lt hx) _ rfl) (fun p hp => ⟨ih _ (key_lt hp).1 _ rfl, ih _ (key_lt hp).2 _ rfl⟩)
end Vl
def ncmp (a b : Nat) : Int := if a < b then -1 else if b < a then 1 else 0
def tcmp : List UInt8 → List UInt8 → Int
  | [], [] => 0
  | [], _ :: _ => -1
  | _ :: _, [] => 1
  | x :: a, y :: b => if x.toNat < y.toNat then -1 else if y.toNat < x.toNat then 1 else tcmp a b
mutual
def vcmp : Vl → Vl → Int
  | .mk k n t fs r ls ps, b =>
    if k < b.kind then -1 else if b.kind < k then 1
    else if k = 1 then ncmp n b.num
    else if k = 2 then tcmp t b.text
    else if k = 3 then (if fcmp fs b.fields ≠ 0 then fcmp fs b.fields else tcmp r b.rest)
    else if k = 4 then lcmp ls b.list
    else if k = 5 then pcmp ps b.pairs
    else 0
def fcmp : List (Int × Vl) → List (Int × Vl) → Int
  | [], [] => 0
  | [], _ :: _ => -1
  | _ :: _, [] => 1
  | (m, x) :: a, y :: b => if m < y.1 then -1 else if y.1 < m then 1 else if vcmp x y.2 ≠ 0 then vcmp x y.2 else fcmp a b
def lcmp : List Vl → List Vl → Int
  | [], [] => 0
  | [], _ :: _ => -1
  | _ :: _, [] => 1
  | x :: a, y :: b => if vcmp x y ≠ 0 then vcmp x y else lcmp a b
def pcmp : List (Vl × Vl) → List (Vl × Vl) → Int
  | [], [] => 0
  | [], _ :: _ => -1
  | _ :: _, [] => 1
  | (k, x) :: a, y :: b => if vcmp k y.1 ≠ 0 then vcmp k y.1 else if vcmp x y.2 ≠ 0 then vcmp x y.2 else pcmp a b
end
end Go.Proofs.Ytlikbiiimhfnkaa
namespace Go.Proofs.Ytlikbiiimhfnkaa
open Go
def Tri (x y z : Int) : Prop := (x ≤ 0 → y ≤ 0 → z ≤ 0) ∧ (x < 0 → y ≤ 0 → z < 0) ∧ (x ≤ 0 → y < 0 → z < 0) ∧ (0 ≤ x → 0 ≤ y → 0 ≤ z) ∧ (0 < x → 0 ≤ y → 0 < z) ∧ (0 ≤ x → 0 < y → 0 < z)
def lex (x y : Int) : Int := if x ≠ 0 then x else y
theorem Tri.lex {x1 y1 z1 x2 y2 z2 : Int} (h : Tri x1 y1 z1) (k : x1 = 0 → y1 = 0 → Tri x2 y2 z2) : Tri (lex x1 x2) (lex y1 y2) (lex z1 z2) := by
  by_cases hx : x1 = 0
  · by_cases hy : y1 = 0
    · have hk := k hx hy
      unfold Tri at h hk ⊢
      unfold Proofs.Ytlikbiiimhfnkaa.lex
      subst hx hy
      have hz : z1 = 0 := by omega
      subst hz
      simpa using hk
    · clear k
      unfold Tri at h ⊢
      unfold Proofs.Ytlikbiiimhfnkaa.lex
      repeat' split
      all_goals omega
  · clear k
    unfold Tri at h ⊢
    unfold Proofs.Ytlikbiiimhfnkaa.lex
    repeat' split
    all_goals omega
theorem neg_lex {x y x' y' : Int} (h : x = -x') (k : x = 0 → y = -y') : lex x y = -lex x' y' := by
  unfold lex
  by_cases hx : x = 0
  · have := k hx
    rw [if_neg (by omega), if_neg (by omega)]
    exact this
  · rw [if_pos hx, if_pos (by omega)]
    exact h
theorem lex_zero {x y : Int} (h : lex x y = 0) : x = 0 ∧ y = 0 := by
  unfold lex at h
  split at h <;> omega
def icmp (a b : Int) : Int := if a < b then -1 else if b < a then 1 else 0
theorem icmp_neg (a b : Int) : icmp a b = -icmp b a := by
  unfold icmp
  repeat' split
  all_goals omega
theorem icmp_tri (a b c : Int) : Tri (icmp a b) (icmp b c) (icmp a c) := by
  unfold Tri icmp
  repeat' split
  all_goals omega
theorem icmp_zero {a b : Int} (h : icmp a b = 0) : a = b := by
  unfold icmp at h
  repeat' split at h
  all_goals omega
theorem ncmp_neg (a b : Nat) : ncmp a b = -ncmp b a := by
  unfold ncmp
  repeat' split
  all_goals omega
theorem ncmp_tri (a b c : Nat) : Tri (ncmp a b) (ncmp b c) (ncmp a c) := by
  unfold Tri ncmp
  repeat' split
  all_goals omega
theorem ncmp_zero {a b : Nat} (h : ncmp a b = 0) : a = b := by
  unfold ncmp at h
  repeat' split at h
  all_goals omega
theorem tri_zero : Tri 0 0 0 := by unfold Tri; omega
theorem tcmp_cons (x y : UInt8) (a b : List UInt8) : tcmp (x :: a) (y :: b) = lex (ncmp x.toNat y.toNat) (tcmp a b) := by
  rw [tcmp]
  unfold lex ncmp
  repeat' split
  all_goals omega
theorem tcmp_neg : ∀ a b : List UInt8, tcmp a b = -tcmp b a
  | [], [] => rfl
  | [], _ :: _ => rfl
  | _ :: _, [] => rfl
  | x :: a, y :: b => by
    rw [tcmp_cons, tcmp_cons]
    exact neg_lex (ncmp_neg _ _) fun _ => tcmp_neg a b
theorem tcmp_tri : ∀ a b c : List UInt8, Tri (tcmp a b) (tcmp b c) (tcmp a c)
  | [], [], [] => tri_zero
  | [], [], _ :: _ => by unfold Tri tcmp; omega
  | [], _ :: _, [] => by unfold Tri tcmp; omega
  | [], _ :: _, _ :: _ => by unfold Tri; simp only [tcmp]; omega
  | _ :: _, [], [] => by unfold Tri tcmp; omega
  | _ :: _, [], _ :: _ => by unfold Tri; simp only [tcmp]; omega
  | _ :: _, _ :: _, [] => by unfold Tri; simp only [tcmp]; omega
  | x :: a, y :: b, z :: c => by
    rw [tcmp_cons, tcmp_cons, tcmp_cons]
    exact (ncmp_tri _ _ _).lex fun _ _ => tcmp_tri a b c
theorem u8_eq {x y : UInt8} (h : x.toNat = y.toNat) : x = y := UInt8.toNat_inj.1 h
theorem tcmp_zero : ∀ {a b : List UInt8}, tcmp a b = 0 → a = b
  | [], [], _ => rfl
  | [], _ :: _, h => by simp [tcmp] at h
  | _ :: _, [], h => by simp [tcmp] at h
  | x :: a, y :: b, h => by
    rw [tcmp_cons] at h
    obtain ⟨h1, h2⟩ := lex_zero h
    rw [u8_eq (ncmp_zero h1), tcmp_zero h2]
def body (k : Int) (a b : Vl) : Int :=
  if k = 1 then ncmp a.num b.num else if k = 2 then tcmp a.text b.text else if k = 3 then lex (fcmp a.fields b.fields) (tcmp a.rest b.rest) else if k = 4 then lcmp a.list b.list else if k = 5 then pcmp a.pairs b.pairs else 0
theorem vcmp_eq (a b : Vl) : vcmp a b = lex (icmp a.kind b.kind) (body a.kind a b) := by
  cases a with
  | mk k n t fs r ls ps =>
    rw [vcmp]
    unfold lex icmp body
    simp only [Vl.kind_mk, Vl.num_mk, Vl.text_mk, Vl.fields_mk, Vl.rest_mk, Vl.list_mk, Vl.pairs_mk]
    by_cases h1 : k < b.kind
    · simp [h1]
    · by_cases h2 : b.kind < k
      · simp [h1, h2]
      · simp only [h1, h2, if_false, ne_eq, not_true_eq_false]
        rfl
theorem fcmp_cons (x y : Int × Vl) (a b : List (Int × Vl)) : fcmp (x :: a) (y :: b) = lex (icmp x.1 y.1) (lex (vcmp x.2 y.2) (fcmp a b)) := by
  obtain ⟨m, x⟩ := x
  rw [fcmp]
  unfold lex icmp
  by_cases h1 : m < y.1
  · simp [h1]
  · by_cases h2 : y.1 < m
    · simp [h1, h2]
    · simp [h1, h2]
theorem lcmp_cons (x y : Vl) (a b : List Vl) : lcmp (x :: a) (y :: b) = lex (vcmp x y) (lcmp a b) := by
  rw [lcmp]
  rfl
theorem pcmp_cons (x y : Vl × Vl) (a b : List (Vl × Vl)) : pcmp (x :: a) (y :: b) = lex (vcmp x.1 y.1) (lex (vcmp x.2 y.2) (pcmp a b)) := by
  obtain ⟨k, x⟩ := x
  rw [pcmp]
  rfl
theorem fcmp_neg : ∀ a b : List (Int × Vl), (∀ f ∈ a, ∀ y, vcmp f.2 y = -vcmp y f.2) → fcmp a b = -fcmp b a
  | [], [], _ => by simp [fcmp]
  | [], _ :: _, _ => by simp [fcmp]
  | _ :: _, [], _ => by simp [fcmp]
  | x :: a, y :: b, h => by
    rw [fcmp_cons, fcmp_cons]
    exact neg_lex (icmp_neg _ _) fun _ => neg_lex (h x (.head _) _) fun _ => fcmp_neg a b fun f hf => h f (.tail _ hf)
theorem lcmp_neg : ∀ a b : List Vl, (∀ x ∈ a, ∀ y, vcmp x y = -vcmp y x) → lcmp a b = -lcmp b a
  | [], [], _ => by simp [lcmp]
  | [], _ :: _, _ => by simp [lcmp]
  | _ :: _, [], _ => by simp [lcmp]
  | x :: a, y :: b, h => by
    rw [lcmp_cons, lcmp_cons]
    exact neg_lex (h x (.head _) _) fun _ => lcmp_neg a b fun f hf => h f (.tail _ hf)
theorem pcmp_neg : ∀ a b : List (Vl × Vl), (∀ p ∈ a, ∀ y, vcmp p.1 y = -vcmp y p.1 ∧ vcmp p.2 y = -vcmp y p.2) → pcmp a b = -pcmp b a
  | [], [], _ => by simp [pcmp]
  | [], _ :: _, _ => by simp [pcmp]
  | _ :: _, [], _ => by simp [pcmp]
  | x :: a, y :: b, h => by
    rw [pcmp_cons, pcmp_cons]
    exact neg_lex (h x (.head _) _).1 fun _ => neg_lex (h x (.head _) _).2 fun _ => pcmp_neg a b fun f hf => h f (.tail _ hf)
theorem vcmp_neg (a b : Vl) : vcmp a b = -vcmp b a := by
  revert b
  refine Vl.parts (P := fun a => ∀ b, vcmp a b = -vcmp b a) (fun a hf hl hp b => ?_) a
  rw [vcmp_eq, vcmp_eq]
  refine neg_lex (icmp_neg _ _) fun hk => ?_
  rw [← icmp_zero hk]
  unfold body
  repeat' split
  · exact ncmp_neg _ _
  · exact tcmp_neg _ _
  · exact neg_lex (fcmp_neg _ _ hf) fun _ => tcmp_neg _ _
  · exact lcmp_neg _ _ hl
  · exact pcmp_neg _ _ fun p h y => ⟨(hp p h).1 y, (hp p h).2 y⟩
  · rfl
theorem fcmp_tri : ∀ a b c : List (Int × Vl), (∀ f ∈ a, ∀ y z, Tri (vcmp f.2 y) (vcmp y z) (vcmp f.2 z)) → Tri (fcmp a b) (fcmp b c) (fcmp a c)
  | [], [], [], _ => by unfold Tri; simp [fcmp]
  | [], [], _ :: _, _ => by unfold Tri; simp [fcmp]
  | [], _ :: _, [], _ => by unfold Tri; simp [fcmp]
  | [], _ :: _, _ :: _, _ => by unfold Tri; simp only [fcmp]; omega
  | _ :: _, [], [], _ => by unfold Tri; simp [fcmp]
  | _ :: _, [], _ :: _, _ => by unfold Tri; simp only [fcmp]; omega
  | _ :: _, _ :: _, [], _ => by unfold Tri; simp only [fcmp]; omega
  | x :: a, y :: b, z :: c, h => by
    rw [fcmp_cons, fcmp_cons, fcmp_cons]
    exact (icmp_tri _ _ _).lex fun _ _ => (h x (.head _) _ _).lex fun _ _ => fcmp_tri a b c fun f hf => h f (.tail _ hf)
theorem lcmp_tri : ∀ a b c : List Vl, (∀ x ∈ a, ∀ y z, Tri (vcmp x y) (vcmp y z) (vcmp x z)) → Tri (lcmp a b) (lcmp b c) (lcmp a c)
  | [], [], [], _ => by unfold Tri; simp [lcmp]
  | [], [], _ :: _, _ => by unfold Tri; simp [lcmp]
  | [], _ :: _, [], _ => by unfold Tri; simp [lcmp]
  | [], _ :: _, _ :: _, _ => by unfold Tri; simp only [lcmp]; omega
  | _ :: _, [], [], _ => by unfold Tri; simp [lcmp]
  | _ :: _, [], _ :: _, _ => by unfold Tri; simp only [lcmp]; omega
  | _ :: _, _ :: _, [], _ => by unfold Tri; simp only [lcmp]; omega
  | x :: a, y :: b, z :: c, h => by
    rw [lcmp_cons, lcmp_cons, lcmp_cons]
    exact (h x (.head _) _ _).lex fun _ _ => lcmp_tri a b c fun f hf => h f (.tail _ hf)
theorem pcmp_tri : ∀ a b c : List (Vl × Vl), (∀ p ∈ a, ∀ y z, Tri (vcmp p.1 y) (vcmp y z) (vcmp p.1 z) ∧ Tri (vcmp p.2 y) (vcmp y z) (vcmp p.2 z)) → Tri (pcmp a b) (pcmp b c) (pcmp a c)
  | [], [], [], _ => by unfold Tri; simp [pcmp]
  | [], [], _ :: _, _ => by unfold Tri; simp [pcmp]
  | [], _ :: _, [], _ => by unfold Tri; simp [pcmp]
  | [], _ :: _, _ :: _, _ => by unfold Tri; simp only [pcmp]; omega
  | _ :: _, [], [], _ => by unfold Tri; simp [pcmp]
  | _ :: _, [], _ :: _, _ => by unfold Tri; simp only [pcmp]; omega
  | _ :: _, _ :: _, [], _ => by unfold Tri; simp only [pcmp]; omega
  | x :: a, y :: b, z :: c, h => by
    rw [pcmp_cons, pcmp_cons, pcmp_cons]
    exact (h x (.head _) _ _).1.lex fun _ _ => (h x (.head _) _ _).2.lex fun _ _ => pcmp_tri a b c fun f hf => h f (.tail _ hf)
theorem vcmp_tri (a b c : Vl) : Tri (vcmp a b) (vcmp b c) (vcmp a c) := by
  revert b c
  refine Vl.parts (P := fun a => ∀ b c, Tri (vcmp a b) (vcmp b c) (vcmp a c)) (fun a hf hl hp b c => ?_) a
  rw [vcmp_eq a b, vcmp_eq b c, vcmp_eq a c]
  refine (icmp_tri _ _ _).lex fun h1 h2 => ?_
  rw [← icmp_zero h1]
  unfold body
  repeat' split
  · exact ncmp_tri _ _ _
  · exact tcmp_tri _ _ _
  · exact (fcmp_tri _ _ _ hf).lex fun _ _ => tcmp_tri _ _ _
  · exact lcmp_tri _ _ _ hl
  · exact pcmp_tri _ _ _ fun p h y z => ⟨(hp p h).1 y z, (hp p h).2 y z⟩
  · exact tri_zero
theorem vcmp_self (a : Vl) : vcmp a a = 0 := by
  have := vcmp_neg a a
  omega
theorem lex_in {x y : Int} (h : x = -1 ∨ x = 0 ∨ x = 1) (k : y = -1 ∨ y = 0 ∨ y = 1) : lex x y = -1 ∨ lex x y = 0 ∨ lex x y = 1 := by
  unfold lex
  split <;> omega
theorem ncmp_in (a b : Nat) : ncmp a b = -1 ∨ ncmp a b = 0 ∨ ncmp a b = 1 := by
  unfold ncmp
  repeat' split
  all_goals omega
theorem tcmp_in : ∀ a b : List UInt8, tcmp a b = -1 ∨ tcmp a b = 0 ∨ tcmp a b = 1
  | [], [] => .inr (.inl rfl)
  | [], _ :: _ => .inl rfl
  | _ :: _, [] => .inr (.inr rfl)
  | x :: a, y :: b => by
    rw [tcmp_cons]
    exact lex_in (ncmp_in _ _) (tcmp_in a b)
theorem fcmp_end (a b : List (Int × Vl)) (h : a = [] ∨ b = []) : fcmp a b = ncmp a.length b.length := by
  rcases h with rfl | rfl
  · cases b with
    | nil => simp [fcmp, ncmp]
    | cons y b => simp [fcmp, ncmp]
  · cases a with
    | nil => simp [fcmp, ncmp]
    | cons y b => simp [fcmp, ncmp]
theorem lcmp_end (a b : List Vl) (h : a = [] ∨ b = []) : lcmp a b = ncmp a.length b.length := by
  rcases h with rfl | rfl
  · cases b with
    | nil => simp [lcmp, ncmp]
    | cons y b => simp [lcmp, ncmp]
  · cases a with
    | nil => simp [lcmp, ncmp]
    | cons y b => simp [lcmp, ncmp]
theorem pcmp_end (a b : List (Vl × Vl)) (h : a = [] ∨ b = []) : pcmp a b = ncmp a.length b.length := by
  rcases h with rfl | rfl
  · cases b with
    | nil => simp [pcmp, ncmp]
    | cons y b => simp [pcmp, ncmp]
  · cases a with
    | nil => simp [pcmp, ncmp]
    | cons y b => simp [pcmp, ncmp]
theorem drop_cons {α : Type} {l : List α} {k : Nat} {x : α} (h : l[k]? = some x) : l.drop k = x :: l.drop (k + 1) := by
  have hk := (List.getElem?_eq_some_iff.1 h).1
  rw [List.drop_eq_getElem_cons hk, (List.getElem?_eq_some_iff.1 h).2]
theorem ncmp_drop (a b k : Nat) (ha : k ≤ a) (hb : k ≤ b) : ncmp (a - k) (b - k) = ncmp a b := by
  unfold ncmp
  repeat' split
  all_goals omega
end Go.Proofs.Ytlikbiiimhfnkaa
namespace Go.Proofs.Ytlikbiiimhfnkaa
open Go.RowKit
theorem less_tcmp : ∀ a b : List UInt8, Op.bytesLess a b = decide (tcmp a b < 0)
  | [], [] => rfl
  | [], _ :: _ => rfl
  | _ :: _, [] => rfl
  | x :: a, y :: b => by
    rw [Op.bytesLess, tcmp, less_tcmp a b]
    by_cases h1 : x.toNat < y.toNat
    · have h1' : x < y := UInt8.lt_iff_toNat_lt.2 h1
      simp [h1, h1']
    · have h1' : ¬ x < y := fun h => h1 (UInt8.lt_iff_toNat_lt.1 h)
      by_cases h2 : y.toNat < x.toNat
      · have h3 : (x == y) = false := beq_eq_false_iff_ne.2 (fun e => by rw [e] at h2; omega)
        simp [h1, h1', h2, h3]
      · have h3 : x = y := UInt8.toNat_inj.1 (by omega)
        subst h3
        simp
section
variable {P : Program} {t : TypeId} {a b : List UInt8}
theorem v_slss : BinV P .lss t (.string (str a)) (.string (str b)) (.bool (decide (tcmp a b < 0))) := fun _ _ w => by
  simp only [eqGuard, binOp, Op.stringOp, str_toList, less_tcmp]
  rfl
theorem tcmp_gtr (a b : List UInt8) : (!(decide (tcmp a b < 0) || (a == b))) = decide (0 < tcmp a b) := by
  rw [list_beq]
  rcases tcmp_in a b with h | h | h
  · rw [h]; rfl
  · rw [h, tcmp_zero h]; simp
  · have hne : ¬ a = b := fun e => by rw [e] at h; have := tcmp_neg b b; omega
    rw [h, decide_eq_false hne]
    rfl
theorem v_sgtr : BinV P .gtr t (.string (str a)) (.string (str b)) (.bool (decide (0 < tcmp a b))) := fun _ _ w => by
  simp only [eqGuard, binOp, Op.stringOp, str_toList, less_tcmp, tcmp_gtr]
  rfl
end
theorem s_convk {P : Program} {cx : Cx} {T : TL} {B : BL} {R : RL} {o : Oper} {x : Operand} {src dst : TypeId} {k k' : IntKind} {n z : Int} (ho : o.op = .convert src dst x) (hx : Kn T x (.is (.int k n))) (hs : (P.underlying src).isSome = true) (hd : P.underlying dst = some (.int k')) (hi : P.intKind dst = k') (hz : k'.wrap n = z) : LStep P cx B R o T (.is (.int k' z)) := LStep.same fun M V w a _ hk => by
  have h1 := (hk x _ (by simp [ho, Op.operands]) hx).is_eq
  subst hi hz
  exact ⟨_, by simp [execOp, ho, h1, run_convert_int w src dst k n hs hd], .cell _⟩
theorem wrap_u64 (z : Int) (h1 : 0 ≤ z) (h2 : z ≤ 18446744073709551615) : IntKind.u64.wrap z = z := by
  simp only [IntKind.wrap, IntKind.bits, IntKind.signed]
  simp
  omega
end Go.Proofs.Ytlikbiiimhfnkaa
namespace Go.Proofs.Ytlikbiiimhfnkaa
open Go
def vplain (v : Vl) : Bool :=
  decide (0 ≤ v.kind) && decide (v.kind ≤ 5) && (decide (v.kind = 1) || decide (v.num = 0)) && (decide (v.kind = 2) || decide (v.text.length = 0)) && (decide (v.kind = 3) || decide (v.fields.length + v.rest.length = 0)) && (decide (v.kind = 4) == decide (0 < v.list.length)) && (decide (v.kind = 5) == decide (0 < v.pairs.length))
def vone (v : Vl) : Bool := decide (v.kind = 1) || decide (v.kind = 2) || decide (v.kind = 3)
mutual
def vright : Vl → Bool
  | .mk k n t fs r ls ps => vplain (.mk k n t fs r ls ps) && fright 0 fs && lright ls && pright none ps
def fright : Int → List (Int × Vl) → Bool
  | _, [] => true
  | prev, (n, x) :: fs => decide (1 ≤ n) && decide (n ≤ 536870911) && decide (prev < n) && decide (x.kind ≠ 0) && vright x && fright n fs
def lright : List Vl → Bool
  | [] => true
  | x :: ls => vone x && vright x && lright ls
def pright : Option Vl → List (Vl × Vl) → Bool
  | _, [] => true
  | prev, (k, x) :: ps => decide (k.kind ≤ 2) && vone k && vright k && vone x && vright x && (match prev with | none => true | some q => decide (q.kind = k.kind) && decide (vcmp q k < 0)) && pright (some k) ps
end
mutual
def vsize : Vl → Nat
  | .mk k _ _ fs _ ls ps => if k = 0 then 0 else 1 + lsize ls + fsize fs + psize ps
def fsize : List (Int × Vl) → Nat
  | [] => 0
  | (_, x) :: fs => vsize x + fsize fs
def lsize : List Vl → Nat
  | [] => 0
  | x :: ls => vsize x + lsize ls
def psize : List (Vl × Vl) → Nat
  | [] => 0
  | (k, x) :: ps => vsize k + vsize x + psize ps
end
mutual
def vdepth : Vl → Nat
  | .mk k _ _ fs _ ls ps => max (max (ldepth ls) (fdepth fs)) (pdepth ps) + if k = 3 then 1 else 0
def fdepth : List (Int × Vl) → Nat
  | [] => 0
  | (_, x) :: fs => max (vdepth x) (fdepth fs)
def ldepth : List Vl → Nat
  | [] => 0
  | x :: ls => max (vdepth x) (ldepth ls)
def pdepth : List (Vl × Vl) → Nat
  | [] => 0
  | (k, x) :: ps => max (max (vdepth k) (vdepth x)) (pdepth ps)
end
mutual
def vnodes : Vl → Nat
  | .mk _ _ _ fs _ ls ps => 1 + lnodes ls + fnodes fs + pnodes ps
def fnodes : List (Int × Vl) → Nat
  | [] => 0
  | (_, x) :: fs => vnodes x + fnodes fs
def lnodes : List Vl → Nat
  | [] => 0
  | x :: ls => vnodes x + lnodes ls
def pnodes : List (Vl × Vl) → Nat
  | [] => 0
  | (k, x) :: ps => vnodes k + vnodes x + pnodes ps
end
theorem vright_eq (v : Vl) : vright v = (vplain v && fright 0 v.fields && lright v.list && pright none v.pairs) := by
  cases v
  rw [vright]
  rfl
theorem vsize_eq (v : Vl) : vsize v = if v.kind = 0 then 0 else 1 + lsize v.list + fsize v.fields + psize v.pairs := by
  cases v
  rw [vsize]
  rfl
theorem vdepth_eq (v : Vl) : vdepth v = max (max (ldepth v.list) (fdepth v.fields)) (pdepth v.pairs) + if v.kind = 3 then 1 else 0 := by
  cases v
  rw [vdepth]
  rfl
theorem vnodes_eq (v : Vl) : vnodes v = 1 + lnodes v.list + fnodes v.fields + pnodes v.pairs := by
  cases v
  rw [vnodes]
  rfl
theorem fnodes_mem {fs : List (Int × Vl)} {f : Int × Vl} (h : f ∈ fs) : vnodes f.2 ≤ fnodes fs := by
  induction fs with
  | nil => cases h
  | cons g fs ih =>
    obtain ⟨n, x⟩ := g
    rw [fnodes]
    rcases List.mem_cons.1 h with h | h
    · rw [h]; simp
    · have := ih h; omega
theorem lnodes_mem {ls : List Vl} {x : Vl} (h : x ∈ ls) : vnodes x ≤ lnodes ls := by
  induction ls with
  | nil => cases h
  | cons g ls ih =>
    rw [lnodes]
    rcases List.mem_cons.1 h with h | h
    · rw [h]; omega
    · have := ih h; omega
theorem pnodes_mem {ps : List (Vl × Vl)} {p : Vl × Vl} (h : p ∈ ps) : vnodes p.1 + vnodes p.2 ≤ pnodes ps := by
  induction ps with
  | nil => cases h
  | cons g ps ih =>
    obtain ⟨k, x⟩ := g
    rw [pnodes]
    rcases List.mem_cons.1 h with h | h
    · rw [h]; simp
    · have := ih h; omega
theorem vnodes_pos (v : Vl) : 0 < vnodes v := by rw [vnodes_eq]; omega
theorem fnodes_len : ∀ fs : List (Int × Vl), fs.length ≤ fnodes fs
  | [] => Nat.le_refl _
  | (n, x) :: fs => by
    rw [fnodes, List.length_cons]
    have := fnodes_len fs
    have := vnodes_pos x
    omega
theorem lnodes_len : ∀ ls : List Vl, ls.length ≤ lnodes ls
  | [] => Nat.le_refl _
  | x :: ls => by
    rw [lnodes, List.length_cons]
    have := lnodes_len ls
    have := vnodes_pos x
    omega
theorem pnodes_len : ∀ ps : List (Vl × Vl), ps.length ≤ pnodes ps
  | [] => Nat.le_refl _
  | (k, x) :: ps => by
    rw [pnodes, List.length_cons]
    have := pnodes_len ps
    have := vnodes_pos x
    omega
theorem size_le (v : Vl) : vsize v ≤ vnodes v ∧ vdepth v ≤ vnodes v := by
  refine Vl.parts (P := fun v => vsize v ≤ vnodes v ∧ vdepth v ≤ vnodes v) (fun v hf hl hp => ?_) v
  have h1 : fsize v.fields ≤ fnodes v.fields ∧ fdepth v.fields ≤ fnodes v.fields := by
    revert hf
    generalize v.fields = fs
    intro hf
    induction fs with
    | nil => simp [fsize, fnodes, fdepth]
    | cons f fs ih =>
      obtain ⟨n, x⟩ := f
      have := hf _ (.head _)
      have := ih fun f h => hf f (.tail _ h)
      simp only [fsize, fnodes, fdepth] at *
      omega
  have h2 : lsize v.list ≤ lnodes v.list ∧ ldepth v.list ≤ lnodes v.list := by
    revert hl
    generalize v.list = ls
    intro hl
    induction ls with
    | nil => simp [lsize, lnodes, ldepth]
    | cons x ls ih =>
      have := hl _ (.head _)
      have := ih fun f h => hl f (.tail _ h)
      simp only [lsize, lnodes, ldepth] at *
      omega
  have h3 : psize v.pairs ≤ pnodes v.pairs ∧ pdepth v.pairs ≤ pnodes v.pairs := by
    revert hp
    generalize v.pairs = ps
    intro hp
    induction ps with
    | nil => simp [psize, pnodes, pdepth]
    | cons p ps ih =>
      obtain ⟨k, x⟩ := p
      have := hp _ (.head _)
      have := ih fun f h => hp f (.tail _ h)
      simp only [psize, pnodes, pdepth] at *
      omega
  rw [vsize_eq, vdepth_eq, vnodes_eq]
  constructor <;> split <;> omega
theorem vplain_iff (v : Vl) : vplain v = true ↔ 0 ≤ v.kind ∧ v.kind ≤ 5 ∧ (v.kind ≠ 1 → v.num = 0) ∧ (v.kind ≠ 2 → v.text = []) ∧ (v.kind ≠ 3 → v.fields = [] ∧ v.rest = []) ∧ (v.kind = 4 ↔ v.list ≠ []) ∧ (v.kind = 5 ↔ v.pairs ≠ []) := by
  have e : ∀ {α : Type} (l : List α), 0 < l.length ↔ l ≠ [] := fun l => List.length_pos_iff
  have e2 : v.fields.length + v.rest.length = 0 ↔ v.fields = [] ∧ v.rest = [] := by rw [Nat.add_eq_zero_iff, List.length_eq_zero_iff, List.length_eq_zero_iff]
  unfold vplain
  simp only [Bool.and_eq_true, Bool.or_eq_true, decide_eq_true_eq, beq_iff_eq, decide_eq_decide, e, e2, List.length_eq_zero_iff]
  constructor
  · rintro ⟨⟨⟨⟨⟨⟨a, b⟩, c⟩, d⟩, f⟩, g⟩, h⟩
    exact ⟨a, b, fun h => c.resolve_left h, fun h => d.resolve_left h, fun h => f.resolve_left h, g, h⟩
  · rintro ⟨a, b, c, d, f, g, h⟩
    exact ⟨⟨⟨⟨⟨⟨a, b⟩, Decidable.or_iff_not_imp_left.2 c⟩, Decidable.or_iff_not_imp_left.2 d⟩, Decidable.or_iff_not_imp_left.2 f⟩, g⟩, h⟩
end Go.Proofs.Ytlikbiiimhfnkaa
namespace Go.Proofs.Ytlikbiiimhfnkaa
open Go.RowKit
theorem flat_get {α : Type} {f : α → List Dat} {k : Nat} (hk : ∀ a, (f a).length = k) {qs : List α} {i r : Nat} {a : α} (ha : qs[i]? = some a) (hr : r < k) : (qs.flatMap f)[i * k + r]? = (f a)[r]? := by
  have h := flat_part hk qs i a ha
  rw [← h, List.getElem?_take, if_pos hr, List.getElem?_drop]
def Old (w : World) : Nat → Prop := fun g => g < w.heap.size
section
variable {H : Type} {enc : TypeId × Value → H} {P : Program} {w : World} {base : Nat} {spare : Nat → Bool} {held : Bool} {fuel : Nat} {t : TypeId} {cs : List Value} {x : DataW H × List MemPlace}
theorem open_row {e : TypeId} (ht : P.underlying t = some (.slice e)) {k : Nat} (hk0 : 0 < k) (hke : P.cellsOf e = k) {α : Type} [Inhabited α] {f : α → List Dat} (hk : ∀ a, (f a).length = k) {F : α → Prop}
    (elem : ∀ n, n < fuel → ∀ cs x, DataW.trod enc P w base spare held n e cs = some x → ∃ a, Fits w (Old w) (f a) cs ∧ F a) (h : DataW.trod enc P w base spare held fuel t cs = some x) :
    ∃ p, ∃ qs : List α, ∃ c, cs = [.slice p qs.length c] ∧ Lies w (Old w) (.row k qs.length (qs.flatMap f)) (.slice p qs.length c) ∧ (∀ a ∈ qs, F a) ∧ qs.length ≤ c ∧ c ≤ maxLen := by
  rcases DataW.trod_slice ht h with ⟨rfl, _⟩ | ⟨ad, len, cap, elems, rest, n, rfl, rfl, _, hb, hl, hm, hlen, hel, _, _⟩
  · exact ⟨none, [], 0, rfl, .none _ _ _, by simp, by simp, by simp⟩
  · rw [hke] at hel
    have hone : ∀ i, i < len → ∃ y : α × List Value, Fits w (Old w) (f y.1) y.2 ∧ F y.1 ∧ ∀ j, j < k → w.cell? (ad.add (i * k + j)) = y.2[j]? := fun i hi => by
      have key := hel i hi
      rw [List.getElem?_eq_getElem (by omega)] at key
      obtain ⟨cs', h1, h2⟩ := Option.bind_eq_some_iff.1 key
      obtain ⟨a, hF, hA⟩ := elem n (by omega) cs' _ h2
      obtain ⟨_, _, hat⟩ := World.cells?_some h1
      exact ⟨(a, cs'), hF, hA, fun j hj => by rw [← Go.Deep.add_add]; exact hat j hj⟩
    obtain ⟨Y, hY⟩ := Go.Deep.choose_lt (α := α × List Value) (p := fun i y => Fits w (Old w) (f y.1) y.2 ∧ F y.1 ∧ ∀ j, j < k → w.cell? (ad.add (i * k + j)) = y.2[j]?) hone
    have hlen' : ((List.range len).map fun i => (Y i).1).length = len := by simp
    have hget : ∀ i, i < len → ((List.range len).map fun i => (Y i).1)[i]? = some (Y i).1 := fun i hi => by rw [List.getElem?_map, List.getElem?_range hi]; rfl
    refine ⟨some ad, (List.range len).map fun i => (Y i).1, cap, by rw [hlen'], ?_, fun a ha => ?_, by omega, hm⟩
    · rw [hlen']
      rcases Nat.eq_zero_or_pos len with h0 | h0
      · subst h0
        exact .none _ _ _
      obtain ⟨b, o, s⟩ := ad
      have hcell : ∀ i, i < len → ∀ j, j < k → ∃ v, (Y i).2[j]? = some v := fun i hi j hj => by
        have hl' := (hY i hi).1.1
        rw [hk] at hl'
        exact ⟨_, List.getElem?_eq_getElem (by omega)⟩
      obtain rfl : s = none := by
        obtain ⟨v, hv⟩ := hcell 0 h0 0 hk0
        have := (hY 0 h0).2.2 0 hk0
        rw [hv] at this
        simpa [Addr.add] using World.cell?_spot this
      have hb' : b < w.heap.size := by
        obtain ⟨v, hv⟩ := hcell 0 h0 0 hk0
        have := (hY 0 h0).2.2 0 hk0
        rw [hv] at this
        have := World.block_lt_of_cell? _ _ this
        simpa [Addr.add_lit] using this
      have hfl : ((((List.range len).map fun i => (Y i).1)).flatMap f).length = len * k := by rw [flat_len hk, hlen']
      refine .row k len b o cap _ (fun j => ((Y (j / k)).2[j % k]?).getD default) h0 (by omega) hfl hb' (fun j hj => ?_) fun j d hd => ?_
      · rw [hfl] at hj
        have hi : j / k < len := Nat.div_lt_of_lt_mul (by rw [Nat.mul_comm]; exact hj)
        have hr : j % k < k := Nat.mod_lt _ hk0
        obtain ⟨v, hv⟩ := hcell _ hi _ hr
        have := (hY _ hi).2.2 _ hr
        rw [Addr.add_lit, Nat.div_add_mod' j k] at this
        rw [this, hv]
        rfl
      · have hj : j < len * k := by rw [← hfl]; exact (List.getElem?_eq_some_iff.1 hd).1
        have hi : j / k < len := Nat.div_lt_of_lt_mul (by rw [Nat.mul_comm]; exact hj)
        have hr : j % k < k := Nat.mod_lt _ hk0
        obtain ⟨v, hv⟩ := hcell _ hi _ hr
        rw [← Nat.div_add_mod' j k, flat_get hk (hget _ hi) hr] at hd
        show Lies w (Old w) d (((Y (j / k)).2[j % k]?).getD default)
        rw [hv]
        exact (hY _ hi).1.2 _ d v hd hv
    · obtain ⟨i, hi, rfl⟩ := List.mem_map.1 ha
      exact (hY i (by simpa using hi)).2.1
end
end Go.Proofs.Ytlikbiiimhfnkaa
