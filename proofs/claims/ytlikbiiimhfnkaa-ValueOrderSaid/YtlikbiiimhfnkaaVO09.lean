/- Part 9 of what the last text of this claim is proved by: walks over the program, and the math behind them. Conditions: as each theorem says. -/
import Derived.Test.YtlikbiiimhfnkaaVO08
import Derived.Test.YtlikbiiimhfnkaaProg
import Derived.OpenShut
namespace Go.Proofs.Ytlikbiiimhfnkaa
open Go.RowKit
mutual
def Vl.dats : Vl → List Dat
  | .mk k n t fs r ls ps => [.cell (.int .i64 k), .cell (.int .u64 (n : Int)), .cell (.string (str t)), .row 8 fs.length (fdats fs), .cell (.string (str r)), .row 7 ls.length (ldats ls), .row 14 ps.length (pdats ps)]
def fdats : List (Int × Vl) → List Dat
  | [] => []
  | (n, x) :: fs => (.cell (.int .i64 n) :: x.dats) ++ fdats fs
def ldats : List Vl → List Dat
  | [] => []
  | x :: ls => x.dats ++ ldats ls
def pdats : List (Vl × Vl) → List Dat
  | [] => []
  | (k, x) :: ps => (k.dats ++ x.dats) ++ pdats ps
end
def fieldDats (f : Int × Vl) : List Dat := .cell (.int .i64 f.1) :: f.2.dats
def pairDats (p : Vl × Vl) : List Dat := p.1.dats ++ p.2.dats
theorem fdats_eq : ∀ fs : List (Int × Vl), fdats fs = fs.flatMap fieldDats
  | [] => by simp [fdats]
  | (n, x) :: fs => by rw [fdats, fdats_eq fs, List.flatMap_cons]; rfl
theorem ldats_eq : ∀ ls : List Vl, ldats ls = ls.flatMap Vl.dats
  | [] => by simp [ldats]
  | x :: ls => by rw [ldats, ldats_eq ls, List.flatMap_cons]
theorem pdats_eq : ∀ ps : List (Vl × Vl), pdats ps = ps.flatMap pairDats
  | [] => by simp [pdats]
  | (k, x) :: ps => by rw [pdats, pdats_eq ps, List.flatMap_cons]; rfl
theorem Vl.dats_eq (v : Vl) : v.dats = [.cell (.int .i64 v.kind), .cell (.int .u64 (v.num : Int)), .cell (.string (str v.text)), .row 8 v.fields.length (v.fields.flatMap fieldDats), .cell (.string (str v.rest)), .row 7 v.list.length (v.list.flatMap Vl.dats), .row 14 v.pairs.length (v.pairs.flatMap pairDats)] := by
  cases v
  rw [Vl.dats, fdats_eq, ldats_eq, pdats_eq]
  rfl
theorem Vl.dats_len (v : Vl) : v.dats.length = 7 := by rw [v.dats_eq]; rfl
theorem fieldDats_len (f : Int × Vl) : (fieldDats f).length = 8 := by unfold fieldDats; rw [List.length_cons, Vl.dats_len]
theorem pairDats_len (p : Vl × Vl) : (pairDats p).length = 14 := by unfold pairDats; rw [List.length_append, Vl.dats_len, Vl.dats_len]
def vcells (v : Vl) (f l p : Value) : List Value := [.int .i64 v.kind, .int .u64 (v.num : Int), .string (str v.text), f, .string (str v.rest), l, p]
structure Vin (w : World) (D : Nat → Prop) (v : Vl) (pf : Option Addr) (cf : Nat) (pl : Option Addr) (cl : Nat) (pp : Option Addr) (cp : Nat) : Prop where
  fields : RowD w D 8 pf fieldDats v.fields
  list : RowD w D 7 pl Vl.dats v.list
  pairs : RowD w D 14 pp pairDats v.pairs
theorem Fits.seven {w : World} {D : Nat → Prop} {a b c d e f g : Dat} {xs : List Value} (h : Fits w D [a, b, c, d, e, f, g] xs) :
    ∃ x0 x1 x2 x3 x4 x5 x6, xs = [x0, x1, x2, x3, x4, x5, x6] ∧ Lies w D a x0 ∧ Lies w D b x1 ∧ Lies w D c x2 ∧ Lies w D d x3 ∧ Lies w D e x4 ∧ Lies w D f x5 ∧ Lies w D g x6 := by
  obtain ⟨x0, y0, rfl, h0, k0⟩ := Fits.head h
  obtain ⟨x1, y1, rfl, h1, k1⟩ := Fits.head k0
  obtain ⟨x2, y2, rfl, h2, k2⟩ := Fits.head k1
  obtain ⟨x3, y3, rfl, h3, k3⟩ := Fits.head k2
  obtain ⟨x4, y4, rfl, h4, k4⟩ := Fits.head k3
  obtain ⟨x5, y5, rfl, h5, k5⟩ := Fits.head k4
  obtain ⟨x6, y6, rfl, h6, k6⟩ := Fits.head k5
  obtain rfl : y6 = [] := List.eq_nil_of_length_eq_zero k6.1.symm
  exact ⟨x0, x1, x2, x3, x4, x5, x6, rfl, h0, h1, h2, h3, h4, h5, h6⟩
theorem Vl.lies {w : World} {D : Nat → Prop} {v : Vl} {f l p : Value} (h : Fits w D v.dats (vcells v f l p)) : Lies w D (.row 8 v.fields.length (v.fields.flatMap fieldDats)) f ∧ Lies w D (.row 7 v.list.length (v.list.flatMap Vl.dats)) l ∧ Lies w D (.row 14 v.pairs.length (v.pairs.flatMap pairDats)) p := by
  rw [v.dats_eq] at h
  obtain ⟨x0, x1, x2, x3, x4, x5, x6, e, h0, h1, h2, h3, h4, h5, h6⟩ := Fits.seven h
  simp only [vcells, List.cons.injEq, and_true] at e
  obtain ⟨_, _, _, rfl, _, rfl, rfl⟩ := e
  exact ⟨h3, h5, h6⟩
theorem Vl.shut {w : World} {D : Nat → Prop} {v : Vl} {f l p : Value} (hf : Lies w D (.row 8 v.fields.length (v.fields.flatMap fieldDats)) f) (hl : Lies w D (.row 7 v.list.length (v.list.flatMap Vl.dats)) l) (hp : Lies w D (.row 14 v.pairs.length (v.pairs.flatMap pairDats)) p) : Fits w D v.dats (vcells v f l p) := by
  rw [v.dats_eq]
  exact .cons (.cell _) (.cons (.cell _) (.cons (.cell _) (.cons hf (.cons (.cell _) (.cons hl (.cons hp (.nil _ _)))))))
theorem Vin.stay {w w' : World} {D : Nat → Prop} {v : Vl} {pf : Option Addr} {cf : Nat} {pl : Option Addr} {cl : Nat} {pp : Option Addr} {cp : Nat} (h : Vin w D v pf cf pl cl pp cp) (hk : Keeps D w w') : Vin w' D v pf cf pl cl pp cp := ⟨h.fields.stay hk, h.list.stay hk, h.pairs.stay hk⟩
theorem Fits.split {w : World} {D : Nat → Prop} {ds es : List Dat} {xs : List Value} (h : Fits w D (ds ++ es) xs) : ∃ ys zs, xs = ys ++ zs ∧ Fits w D ds ys ∧ Fits w D es zs := by
  have hl := h.1
  rw [List.length_append] at hl
  refine ⟨xs.take ds.length, xs.drop ds.length, (List.take_append_drop _ _).symm, ?_, ?_⟩
  · have := h.part 0 ds.length
    simpa using this
  · have := h.part ds.length es.length
    rw [List.drop_left, List.take_length] at this
    rwa [List.take_of_length_le (by rw [List.length_drop]; omega)] at this
inductive Vl.Fine : Vl → Prop where
  | mk (v : Vl) : -9223372036854775808 ≤ v.kind → v.kind < 9223372036854775808 → v.num < 18446744073709551616 → v.text.length ≤ maxLen → v.rest.length ≤ maxLen → v.fields.length ≤ maxLen → v.list.length ≤ maxLen → v.pairs.length ≤ maxLen →
    (∀ f ∈ v.fields, -9223372036854775808 ≤ f.1 ∧ f.1 < 9223372036854775808) → (∀ f ∈ v.fields, Fine f.2) → (∀ x ∈ v.list, Fine x) → (∀ p ∈ v.pairs, Fine p.1) → (∀ p ∈ v.pairs, Fine p.2) → Fine v
theorem Vl.Fine.bounds {v : Vl} (h : v.Fine) : v.num < 18446744073709551616 ∧ v.text.length ≤ maxLen ∧ v.rest.length ≤ maxLen ∧ v.fields.length ≤ maxLen ∧ v.list.length ≤ maxLen ∧ v.pairs.length ≤ maxLen ∧ -9223372036854775808 ≤ v.kind ∧ v.kind < 9223372036854775808 := by
  cases h
  exact ⟨‹_›, ‹_›, ‹_›, ‹_›, ‹_›, ‹_›, ‹_›, ‹_›⟩
theorem Vl.Fine.field {v : Vl} (h : v.Fine) {f : Int × Vl} (hf : f ∈ v.fields) : (-9223372036854775808 ≤ f.1 ∧ f.1 < 9223372036854775808) ∧ f.2.Fine := by
  cases h with
  | mk v a b c d e f g h i j k l m => exact ⟨i _ hf, j _ hf⟩
theorem Vl.Fine.elem {v : Vl} (h : v.Fine) {x : Vl} (hx : x ∈ v.list) : x.Fine := by
  cases h with
  | mk v a b c d e f g h i j k l m => exact k _ hx
theorem Vl.Fine.pair {v : Vl} (h : v.Fine) {p : Vl × Vl} (hp : p ∈ v.pairs) : p.1.Fine ∧ p.2.Fine := by
  cases h with
  | mk v a b c d e f g h i j k l m => exact ⟨l _ hp, m _ hp⟩
end Go.Proofs.Ytlikbiiimhfnkaa
namespace Go.Proofs.Ytlikbiiimhfnkaa
open Go
def gstep (g : Vl → Int → Int) (l : Int) (x : Vl) : Int := if 0 ≤ l then g x l else l
def gkids (v : Vl) : List Vl := v.fields.map (·.2) ++ (v.list ++ v.pairs.flatMap fun p => [p.1, p.2])
def vgreat : Nat → Vl → Int → Int
  | 0, _, _ => -1
  | d + 1, v, left => if 400 < v.text.length ∨ 400 < v.rest.length then -1 else (gkids v).foldl (gstep (vgreat d)) (left - 1)
theorem gfold_bd (g : Vl → Int → Int) (hg : ∀ x l, 0 ≤ l → -1 ≤ g x l ∧ g x l ≤ l - 1) : ∀ (xs : List Vl) (l : Int), -1 ≤ l → -1 ≤ xs.foldl (gstep g) l ∧ xs.foldl (gstep g) l ≤ l
  | [], l, h => ⟨h, Int.le_refl _⟩
  | x :: xs, l, h => by
    have h1 : -1 ≤ gstep g l x ∧ gstep g l x ≤ l := by
      unfold gstep
      split
      · rename_i h0
        have := hg x l h0
        omega
      · exact ⟨h, Int.le_refl _⟩
    have := gfold_bd g hg xs _ h1.1
    rw [List.foldl_cons]
    omega
theorem vgreat_bd : ∀ (d : Nat) (v : Vl) (left : Int), 0 ≤ left → -1 ≤ vgreat d v left ∧ vgreat d v left ≤ left - 1
  | 0, _, left, h => by unfold vgreat; omega
  | d + 1, v, left, h => by
    unfold vgreat
    split
    · omega
    · exact gfold_bd _ (fun x l hl => vgreat_bd d x l hl) _ _ (by omega)
inductive Small : Nat → Vl → Prop where
  | mk (d : Nat) (v : Vl) : v.text.length ≤ 400 → v.rest.length ≤ 400 → (∀ x ∈ gkids v, Small d x) → Small (d + 1) v
theorem gnodes (v : Vl) : vnodes v = 1 + lnodes (gkids v) := by
  have h : ∀ a b, lnodes (a ++ b) = lnodes a + lnodes b := fun a b => by
    induction a with
    | nil => simp [lnodes]
    | cons x a ih => rw [List.cons_append, lnodes, lnodes, ih]; omega
  have hf : ∀ fs : List (Int × Vl), lnodes (fs.map (·.2)) = fnodes fs := fun fs => by
    induction fs with
    | nil => simp [lnodes, fnodes]
    | cons f fs ih => obtain ⟨n, x⟩ := f; rw [List.map_cons, lnodes, fnodes, ih]
  have hp : ∀ ps : List (Vl × Vl), lnodes (ps.flatMap fun p => [p.1, p.2]) = pnodes ps := fun ps => by
    induction ps with
    | nil => simp [lnodes, pnodes]
    | cons p ps ih => obtain ⟨k, x⟩ := p; rw [List.flatMap_cons, h, ih, lnodes, lnodes, lnodes, pnodes]; dsimp only; omega
  unfold gkids
  rw [h, h, hf, hp, vnodes_eq]
  omega
theorem gfold_ok (g : Vl → Int → Int) (d : Nat) (hb : ∀ x l, 0 ≤ l → -1 ≤ g x l ∧ g x l ≤ l - 1) (hg : ∀ x l, 0 ≤ l → 0 ≤ g x l → (vnodes x : Int) ≤ l - g x l ∧ Small d x) : ∀ (xs : List Vl) (l : Int), -1 ≤ l → 0 ≤ xs.foldl (gstep g) l → (lnodes xs : Int) ≤ l - xs.foldl (gstep g) l ∧ ∀ x ∈ xs, Small d x
  | [], l, _, h => by simp [lnodes]
  | x :: xs, l, hl, h => by
    rw [List.foldl_cons] at h ⊢
    have h1 : -1 ≤ gstep g l x := by
      unfold gstep
      split
      · rename_i h0; exact (hb x l h0).1
      · exact hl
    have hle := (gfold_bd g hb xs _ h1).2
    obtain ⟨h2, h3⟩ := gfold_ok g d hb hg xs _ h1 h
    have h0 : 0 ≤ l := by
      rcases Int.lt_or_le l 0 with hn | hn
      · have : gstep g l x = l := if_neg (by omega)
        omega
      · exact hn
    have e : gstep g l x = g x l := if_pos h0
    rw [e] at h2 h hle ⊢
    obtain ⟨h4, h5⟩ := hg x l h0 (by omega)
    refine ⟨?_, fun y hy => ?_⟩
    · rw [lnodes]
      omega
    · rcases List.mem_cons.1 hy with h | h
      · rw [h]; exact h5
      · exact h3 y h
theorem vgreat_ok : ∀ (d : Nat) (v : Vl) (left : Int), 0 ≤ left → 0 ≤ vgreat d v left → (vnodes v : Int) ≤ left - vgreat d v left ∧ Small d v
  | 0, _, left, _, h => by unfold vgreat at h; omega
  | d + 1, v, left, hl, h => by
    unfold vgreat at h ⊢
    split at h
    · omega
    · rename_i ht
      rw [if_neg ht]
      obtain ⟨h1, h2⟩ := gfold_ok (vgreat d) d (fun x l hl => vgreat_bd d x l hl) (fun x l hl h => vgreat_ok d x l hl h) (gkids v) (left - 1) (by omega) h
      rw [gnodes]
      exact ⟨by omega, .mk d v (by omega) (by omega) h2⟩
theorem fold_take {g : Int → Vl → Int} {xs : List Vl} {l : Int} {k : Nat} {x : Vl} (h : xs[k]? = some x) : (xs.take (k + 1)).foldl g l = g ((xs.take k).foldl g l) x := by
  have hk := (List.getElem?_eq_some_iff.1 h).1
  rw [List.take_add_one, h, List.foldl_append]
  rfl
def gpairs (ps : List (Vl × Vl)) : List Vl := ps.flatMap fun p => [p.1, p.2]
theorem gpairs_take {g : Int → Vl → Int} {ps : List (Vl × Vl)} {l : Int} {k : Nat} {p : Vl × Vl} (h : ps[k]? = some p) : (gpairs (ps.take (k + 1))).foldl g l = g (g ((gpairs (ps.take k)).foldl g l) p.1) p.2 := by
  unfold gpairs
  rw [List.take_add_one, h, Option.toList_some, List.flatMap_append, List.foldl_append]
  rfl
def rkids (v : Vl) : List Vl := v.list ++ v.fields.map (·.2) ++ gpairs v.pairs
theorem lnodes_append : ∀ a b : List Vl, lnodes (a ++ b) = lnodes a + lnodes b
  | [], b => by simp [lnodes]
  | x :: a, b => by rw [List.cons_append, lnodes, lnodes, lnodes_append a b]; omega
theorem gpairs_cons (p : Vl × Vl) (ps : List (Vl × Vl)) : gpairs (p :: ps) = p.1 :: p.2 :: gpairs ps := by
  unfold gpairs
  rw [List.flatMap_cons]
  rfl
theorem lsize_append : ∀ a b : List Vl, lsize (a ++ b) = lsize a + lsize b
  | [], b => by simp [lsize]
  | x :: a, b => by rw [List.cons_append, lsize, lsize, lsize_append a b]; omega
theorem lsize_fields : ∀ fs : List (Int × Vl), lsize (fs.map (·.2)) = fsize fs
  | [] => by simp [lsize, fsize]
  | (n, x) :: fs => by rw [List.map_cons, lsize, fsize, lsize_fields fs]
theorem lsize_pairs : ∀ ps : List (Vl × Vl), lsize (gpairs ps) = psize ps
  | [] => by simp [gpairs, lsize, psize]
  | (k, x) :: ps => by rw [gpairs_cons, lsize, lsize, lsize_pairs ps, psize]; dsimp only; omega
theorem ldepth_append : ∀ a b : List Vl, ldepth (a ++ b) = max (ldepth a) (ldepth b)
  | [], b => by simp [ldepth]
  | x :: a, b => by rw [List.cons_append, ldepth, ldepth, ldepth_append a b]; omega
theorem ldepth_fields : ∀ fs : List (Int × Vl), ldepth (fs.map (·.2)) = fdepth fs
  | [] => by simp [ldepth, fdepth]
  | (n, x) :: fs => by rw [List.map_cons, ldepth, fdepth, ldepth_fields fs]
theorem ldepth_pairs : ∀ ps : List (Vl × Vl), ldepth (gpairs ps) = pdepth ps
  | [] => by simp [gpairs, ldepth, pdepth]
  | (k, x) :: ps => by rw [gpairs_cons, ldepth, ldepth, ldepth_pairs ps, pdepth]; dsimp only; omega
theorem lsize_take {l : List Vl} {k : Nat} {x : Vl} (h : l[k]? = some x) : lsize (l.take (k + 1)) = lsize (l.take k) + vsize x := by
  rw [List.take_add_one, h, Option.toList_some, lsize_append, lsize, lsize]
  omega
theorem ldepth_take {l : List Vl} {k : Nat} {x : Vl} (h : l[k]? = some x) : ldepth (l.take (k + 1)) = max (ldepth (l.take k)) (vdepth x) := by
  rw [List.take_add_one, h, Option.toList_some, ldepth_append, ldepth, ldepth]
  omega
theorem lsize_le : ∀ l : List Vl, lsize l ≤ lnodes l ∧ ldepth l ≤ lnodes l
  | [] => by simp [lsize, lnodes, ldepth]
  | x :: l => by
    rw [lsize, lnodes, ldepth]
    have := lsize_le l
    have := size_le x
    omega
theorem lnodes_take (l : List Vl) (k : Nat) : lnodes (l.take k) ≤ lnodes l := by
  have h := lnodes_append (l.take k) (l.drop k)
  rw [List.take_append_drop] at h
  omega
theorem Small.parts {d : Nat} {v : Vl} (h : Small (d + 1) v) : v.text.length ≤ 400 ∧ v.rest.length ≤ 400 ∧ ∀ x ∈ gkids v, Small d x := by
  cases h
  exact ⟨‹_›, ‹_›, ‹_›⟩
end Go.Proofs.Ytlikbiiimhfnkaa
namespace Go.Proofs.Ytlikbiiimhfnkaa
open Go.RowKit
def vd (v : Vl) : List Dat := [.cell (.int .i64 v.kind), .cell (.int .u64 (v.num : Int)), .cell (.string (str v.text)), .row 8 v.fields.length (v.fields.flatMap fieldDats), .cell (.string (str v.rest)), .row 7 v.list.length (v.list.flatMap Vl.dats), .row 14 v.pairs.length (v.pairs.flatMap pairDats)]
theorem dats_vd (v : Vl) : v.dats = vd v := v.dats_eq
theorem fieldDats_vd (f : Int × Vl) : fieldDats f = .cell (.int .i64 f.1) :: vd f.2 := by unfold fieldDats; rw [dats_vd]
theorem pairDats_vd (p : Vl × Vl) : pairDats p = vd p.1 ++ vd p.2 := by unfold pairDats; rw [dats_vd, dats_vd]
abbrev iP (z : Int) : Part := .one (.cell (.int .i64 z))
abbrev uP (n : Nat) : Part := .one (.cell (.int .u64 (n : Int)))
abbrev sP (l : List UInt8) : Part := .one (.cell (.string (str l)))
abbrev tP (b : Bool) : Part := .one (.cell (.bool b))
theorem ncmp_lt {a b : Nat} (h : a < b) : ncmp a b = -1 := if_pos h
theorem ncmp_gt {a b : Nat} (h : b < a) : ncmp a b = 1 := (if_neg (by omega)).trans (if_pos h)
theorem ncmp_eq {a b : Nat} (h : a = b) : ncmp a b = 0 := (if_neg (by omega)).trans (if_neg (by omega))
theorem icmp_lt {a b : Int} (h : a < b) : icmp a b = -1 := if_pos h
theorem icmp_gt {a b : Int} (h : b < a) : icmp a b = 1 := (if_neg (by omega)).trans (if_pos h)
theorem icmp_eq {a b : Int} (h : a = b) : icmp a b = 0 := (if_neg (by omega)).trans (if_neg (by omega))
theorem lex_ne {x y : Int} (h : x ≠ 0) : lex x y = x := if_pos h
theorem lex_eq {x y : Int} (h : x = 0) : lex x y = y := if_neg (by omega)
end Go.Proofs.Ytlikbiiimhfnkaa
namespace Go.Proofs.Ytlikbiiimhfnkaa
open Go.RowKit
theorem gpairs_len (ps : List (Vl × Vl)) : (gpairs ps).length = 2 * ps.length := by
  induction ps with
  | nil => rfl
  | cons p ps ih => rw [gpairs_cons, List.length_cons, List.length_cons, ih, List.length_cons]; omega
end Go.Proofs.Ytlikbiiimhfnkaa
namespace Go.Proofs.Ytlikbiiimhfnkaa
open Go.RowKit
inductive Vl.Tx : Vl → Prop where
  | mk (v : Vl) : v.text.length ≤ 400 → v.rest.length ≤ 400 → (∀ x ∈ rkids v, Tx x) → Tx v
theorem kids_mem {v x : Vl} : x ∈ rkids v ↔ x ∈ gkids v := by
  unfold rkids gkids gpairs
  simp only [List.mem_append]
  constructor
  · rintro ((h | h) | h)
    · exact .inr (.inl h)
    · exact .inl h
    · exact .inr (.inr h)
  · rintro (h | h | h)
    · exact .inl (.inr h)
    · exact .inl (.inl h)
    · exact .inr h
theorem Small.tx : ∀ {d : Nat} {v : Vl}, Small d v → v.Tx
  | 0, _, h => by cases h
  | d + 1, v, h => by
    obtain ⟨h1, h2, h3⟩ := h.parts
    exact .mk v h1 h2 fun x hx => (h3 x (kids_mem.1 hx)).tx
end Go.Proofs.Ytlikbiiimhfnkaa
namespace Go.Proofs.Ytlikbiiimhfnkaa
open Go.RowKit
def Vl.zero : Vl := .mk 0 0 [] [] [] [] []
def vget (v : Vl) (n : Int) : Vl := if v.kind = 3 then ((v.fields.find? fun f => f.1 == n).map (·.2)).getD .zero else .zero
def vfind (v key : Vl) : Vl := if v.kind = 5 then ((v.pairs.find? fun p => vcmp p.1 key == 0).map (·.2)).getD .zero else .zero
end Go.Proofs.Ytlikbiiimhfnkaa
namespace Go.Proofs.Ytlikbiiimhfnkaa
open Go.RowKit
def wone (n : Int) (x : Vl) (s : Bool × List (Int × Vl)) (f : Int × Vl) : Bool × List (Int × Vl) := if s.1 = false ∧ n ≤ f.1 then (true, s.2 ++ [(n, x)]) else s
def wtwo (n : Int) (s : Bool × List (Int × Vl)) (f : Int × Vl) : Bool × List (Int × Vl) := if f.1 = n then s else (s.1, s.2 ++ [f])
def wfold (n : Int) (x : Vl) (fs : List (Int × Vl)) : Bool × List (Int × Vl) := fs.foldl (fun s f => wtwo n (wone n x s f) f) (decide (x.kind = 0), [])
def wfields (n : Int) (x : Vl) (fs : List (Int × Vl)) : List (Int × Vl) := if (wfold n x fs).1 then (wfold n x fs).2 else (wfold n x fs).2 ++ [(n, x)]
def vwith (v : Vl) (n : Int) (x : Vl) : Vl := if v.kind = 3 ∧ 1 ≤ n ∧ n ≤ 536870911 then .mk 3 0 [] (wfields n x v.fields) v.rest [] [] else v
end Go.Proofs.Ytlikbiiimhfnkaa
namespace Go.Proofs.Ytlikbiiimhfnkaa
open Go.RowKit
def pone (key x : Vl) (s : Bool × List (Vl × Vl)) (f : Vl × Vl) : Bool × List (Vl × Vl) := if s.1 = false ∧ 0 ≤ vcmp f.1 key then (true, s.2 ++ [(key, x)]) else s
def ptwo (key : Vl) (s : Bool × List (Vl × Vl)) (f : Vl × Vl) : Bool × List (Vl × Vl) := if vcmp f.1 key = 0 then s else (s.1, s.2 ++ [f])
def pfold (key x : Vl) (fs : List (Vl × Vl)) : Bool × List (Vl × Vl) := fs.foldl (fun s f => ptwo key (pone key x s f) f) (decide (x.kind = 0), [])
def ppairs (key x : Vl) (fs : List (Vl × Vl)) : List (Vl × Vl) := if (pfold key x fs).1 then (pfold key x fs).2 else (pfold key x fs).2 ++ [(key, x)]
def vput (v key x : Vl) : Vl := if v.kind = 5 ∨ v.kind = 0 then .mk (if 0 < (ppairs key x v.pairs).length then 5 else 0) 0 [] [] [] [] (ppairs key x v.pairs) else v
end Go.Proofs.Ytlikbiiimhfnkaa
namespace Go.Proofs.Ytlikbiiimhfnkaa
open Go.RowKit
theorem v_dec {P : Program} {t : TypeId} (d : Nat) (h : d ≤ 1000) : BinV P .sub t (.int .i64 ((d + 1 : Nat) : Int)) (.int .i64 1) (.int .i64 (d : Int)) := by
  have := v_sub64 (P := P) (t := t) (m := ((d + 1 : Nat) : Int)) (n := 1) (by omega)
  rwa [show ((d + 1 : Nat) : Int) - 1 = (d : Int) by omega] at this
theorem gstep_yes {g : Vl → Int → Int} {l : Int} {x : Vl} (h : 0 ≤ l) : gstep g l x = g x l := if_pos h
theorem gstep_no {g : Vl → Int → Int} {l : Int} {x : Vl} (h : ¬ 0 ≤ l) : gstep g l x = l := if_neg h
def GreatE (d : Nat) : Prop := ∀ (v : Vl) (left : Int), v.Fine → 0 ≤ left → left ≤ 1000000 → EF Try.prog [] 30 [.many (vd v), iP left, iP (d : Int)] (.part (iP (vgreat d v left)))
set_option maxRecDepth 100000 in
theorem great_zero : GreatE 0 := by
  intro v left hv h0 h1
  refine ef_enter 85 Try.func30 rfl rfl rfl fun w D => ?_
  try refine e_fl ?_
  refine e_list ?_
  refine e_box 3 rfl rfl rfl rfl (kn rfl) rfl rfl rfl rfl ?_
  refine l_as ?_
  refine e_nil ?_
  try refine e_fl ?_
  refine e_plain (w_mv rfl rfl rfl rfl rfl (w_op rfl rfl rfl (s_bin rfl (kn rfl) (kn rfl) v_eql) (w_mv rfl rfl rfl rfl rfl (Walk.gd _ rfl rfl rfl (fun h => s_faddr_box rfl (kn rfl) off_27_2) (Walk.gd _ rfl rfl rfl (fun h => s_load1_box rfl (kn_opt rfl h) rfl rfl one_9) (Walk.gd _ rfl rfl rfl (fun h => s_slen rfl (kn_opt rfl h) str_9) (Walk.gd _ rfl rfl rfl (fun h => s_bin rfl (kn_opt rfl h) (kn rfl) v_gtr) (w_op rfl rfl rfl (s_or rfl (kn rfl) (fun hb => kn_opt rfl hb)) (w_mv rfl rfl rfl rfl rfl (Walk.gd _ rfl rfl rfl (fun h => s_faddr_box rfl (kn rfl) off_27_4) (Walk.gd _ rfl rfl rfl (fun h => s_load1_box rfl (kn_opt rfl h) rfl rfl one_9) (Walk.gd _ rfl rfl rfl (fun h => s_slen rfl (kn_opt rfl h) str_9) (Walk.gd _ rfl rfl rfl (fun h => s_bin rfl (kn_opt rfl h) (kn rfl) v_gtr) (w_op rfl rfl rfl (s_or rfl (kn rfl) (fun hb => kn_opt rfl hb)) .nil)))))))))))))) ?_
  try refine e_fl ?_
  refine e_cond rfl (fun h => ?_) (fun h => ?_)
  · try refine e_fl ?_
    refine e_plain (w_as rfl rfl rfl rfl rfl .nil) ?_
    try refine e_fl ?_
    exact e_return rfl rfl (.tmp (kn rfl) (.nil)) (Imp.of_eq rfl) rfl
  · simp at h
set_option maxRecDepth 100000 in
set_option maxHeartbeats 4000000 in
theorem great_succ (d : Nat) (hd : d ≤ 1000) (ih : GreatE d) : GreatE (d + 1) := by
  intro v left hv h0 h1
  have hmax : maxLen ≤ 9223372036854775807 := by decide
  obtain ⟨a1, a2, a3, a4, a5, a6, a7, a8⟩ := hv.bounds
  have hgb : ∀ (xs : List Vl) (l : Int), -1 ≤ l → -1 ≤ xs.foldl (gstep (vgreat d)) l ∧ xs.foldl (gstep (vgreat d)) l ≤ l := fun xs l h => gfold_bd (vgreat d) (fun x l hl => vgreat_bd d x l hl) xs l h
  have e : ¬ (400 < v.text.length ∨ 400 < v.rest.length) → vgreat (d + 1) v left = (gpairs v.pairs).foldl (gstep (vgreat d)) (v.list.foldl (gstep (vgreat d)) ((v.fields.map (·.2)).foldl (gstep (vgreat d)) (left - 1))) := fun h => by
    rw [vgreat, if_neg h, gkids, List.foldl_append, List.foldl_append]
    rfl
  refine ef_enter 85 Try.func30 rfl rfl rfl fun w D => ?_
  try refine e_fl ?_
  refine e_list ?_
  refine e_box 3 rfl rfl rfl rfl (kn rfl) rfl rfl rfl rfl ?_
  refine l_as ?_
  refine e_nil ?_
  try refine e_fl ?_
  refine e_plain (w_mv rfl rfl rfl rfl rfl (w_op rfl rfl rfl (s_bin rfl (kn rfl) (kn rfl) v_eql) (w_mv rfl rfl rfl rfl rfl (Walk.gd _ rfl rfl rfl (fun h => s_faddr_box rfl (kn rfl) off_27_2) (Walk.gd _ rfl rfl rfl (fun h => s_load1_box rfl (kn_opt rfl h) rfl rfl one_9) (Walk.gd _ rfl rfl rfl (fun h => s_slen rfl (kn_opt rfl h) str_9) (Walk.gd _ rfl rfl rfl (fun h => s_bin rfl (kn_opt rfl h) (kn rfl) v_gtr) (w_op rfl rfl rfl (s_or rfl (kn rfl) (fun hb => kn_opt rfl hb)) (w_mv rfl rfl rfl rfl rfl (Walk.gd _ rfl rfl rfl (fun h => s_faddr_box rfl (kn rfl) off_27_4) (Walk.gd _ rfl rfl rfl (fun h => s_load1_box rfl (kn_opt rfl h) rfl rfl one_9) (Walk.gd _ rfl rfl rfl (fun h => s_slen rfl (kn_opt rfl h) str_9) (Walk.gd _ rfl rfl rfl (fun h => s_bin rfl (kn_opt rfl h) (kn rfl) v_gtr) (w_op rfl rfl rfl (s_or rfl (kn rfl) (fun hb => kn_opt rfl hb)) .nil)))))))))))))) ?_
  try refine e_fl ?_
  refine e_cond rfl (fun h => ?_) (fun h => ?_)
  · have e2 : vgreat (d + 1) v left = -1 := by
      simp only [Bool.or_eq_true, decide_eq_true_eq] at h
      rw [vgreat]
      exact if_pos (by omega)
    try refine e_fl ?_
    refine e_plain (w_as rfl rfl rfl rfl rfl .nil) ?_
    try refine e_fl ?_
    exact e_return rfl rfl (.tmp (kn rfl) (.nil)) (Imp.of_eq (by rw [e2]; rfl)) rfl
  have e2 := e (by
    simp only [Bool.or_eq_false_iff, decide_eq_false_iff_not] at h
    omega)
  clear e h
  try refine e_fl ?_
  refine e_plain (w_mv rfl rfl rfl rfl rfl (w_op rfl rfl rfl (s_bin rfl (kn rfl) (kn rfl) (v_sub64 (by first | omega | (dsimp only; omega) | omega))) (w_as rfl rfl rfl rfl rfl .nil))) ?_
  try refine e_fl ?_
  refine e_plain (w_op rfl rfl rfl (s_faddr_box rfl (kn rfl) off_27_3) (w_op rfl rfl rfl (s_load1_box rfl (kn rfl) rfl rfl one_23) (w_op rfl rfl rfl (s_len rfl (kn rfl) sle_23) (w_mv rfl rfl rfl rfl rfl .nil)))) ?_
  try refine e_fl ?_
  refine e_loop (ι := { k : Nat // k ≤ (v.fields).length })
    (fun k => [(1, .is (.int .i64 ((fun k => ((v.fields.map (·.2)).take k).foldl (gstep (vgreat d)) (left - 1)) k.1))), (2, .is (.int .i64 ((d + 1 : Nat) : Int))), (3, .box 3 0), (30, .part (.one (.row 8 (v.fields).length ((v.fields).flatMap fieldDats)))), (31, .is (.int .i64 ((v.fields).length : Int))), (32, .is (.int .i64 (k.1 : Int)))])
    (fun _ => [(3, ⟨27, bcs (vd v)⟩)]) (fun _ => []) (fun k => (v.fields).length - k.1) ⟨0, by omega⟩
    (fun K => e_sub ⟨s_t, s_t, s_t, s_t, s_t, s_t, trivial⟩ ⟨s_b, trivial⟩ trivial) ?_
  rintro ⟨k, hk⟩
  dsimp only at hk ⊢
  try refine e_fl ?_
  refine e_plain (w_op rfl rfl rfl (s_bin rfl (kn rfl) (kn rfl) v_lss) .nil) ?_
  try refine e_fl ?_
  refine e_cond rfl (fun h => ?_) (fun h => ?_)
  · have hlt : k < v.fields.length := by have := of_decide_eq_true h; omega
    obtain ⟨x, hx⟩ : ∃ x, v.fields[k]? = some x := ⟨_, List.getElem?_eq_getElem hlt⟩
    have hft : ((v.fields.map (·.2)).take (k + 1)).foldl (gstep (vgreat d)) (left - 1) = gstep (vgreat d) (((v.fields.map (·.2)).take k).foldl (gstep (vgreat d)) (left - 1)) x.2 := fold_take (by rw [List.getElem?_map, hx]; rfl)
    have hb := hgb ((v.fields.map (·.2)).take k) (left - 1) (by omega)
    generalize ((v.fields.map (·.2)).take k).foldl (gstep (vgreat d)) (left - 1) = M at hft hb ⊢
    try refine e_fl ?_
    refine e_list ?_
    refine l_op (s_index rfl (kn rfl) (kn rfl) (by omega) hx fieldDats_len sle_23 esz_23 (fieldDats_vd x)) ?_
    refine l_op (s_loadn_ref rfl (kn rfl) agg_58 sz_58) ?_
    refine e_alloc 8 [.is (.int .i64 0), .is (.int .i64 0), .is (.int .u64 0), .is (.string ⟨#[]⟩), .is (.slice none 0 0), .is (.string ⟨#[]⟩), .is (.slice none 0 0), .is (.slice none 0 0)] rfl rfl rfl rfl zr_58 (fun w D M V => ⟨rfl, fun j x v h1 h2 => cfit_is _ h1 h2 rfl⟩) rfl rfl rfl rfl ?_
    refine e_storew rfl rfl rfl (kn rfl) rfl (kn rfl) rfl rfl sz_58 ?_
    refine e_nil ?_
    try refine e_fl ?_
    refine e_plain (w_mv rfl rfl rfl rfl rfl (w_op rfl rfl rfl (s_bin rfl (kn rfl) (kn rfl) v_geq) .nil)) ?_
    try refine e_fl ?_
    refine e_cond rfl (fun h2 => ?_) (fun h2 => ?_)
    · have hM := of_decide_eq_true h2
      rw [gstep_yes hM] at hft
      try refine e_fl ?_
      refine e_plain (w_op rfl rfl rfl (s_faddr_box rfl (kn rfl) off_58_1) (w_op rfl rfl rfl (s_loadn_box (ds := [_, _, _, _, _, _, _]) 7 rfl (kn rfl) rfl rfl agg_27 sz_27 rfl) (w_mv rfl rfl rfl rfl rfl (w_mv rfl rfl rfl rfl rfl (w_op rfl rfl rfl (s_bin rfl (kn rfl) (kn rfl) (v_dec d hd)) (w_op rfl rfl rfl (s_call rfl (by kernel_rfl) (ih x.2 M (hv.field (List.mem_of_getElem? hx)).2 hM (by omega)) ⟨(kn rfl), ⟨(kn rfl), ⟨(kn rfl), trivial⟩⟩⟩) (w_as rfl rfl rfl rfl rfl .nil))))))) ?_
      try refine e_fl ?_
      try refine e_fl ?_
      refine e_plain (w_op rfl rfl rfl (s_bin rfl (kn rfl) (kn rfl) (v_add64 (by first | omega | (dsimp only; omega) | omega))) (w_mv rfl rfl rfl rfl rfl .nil)) ?_
      try refine e_fl ?_
      refine e_again ⟨k + 1, by omega⟩ (by dsimp only; omega) (fun K => e_sub ⟨⟨_, rfl, Imp.of_eq (by rw [hft])⟩, s_t, s_t, s_t, s_t, s_t, trivial⟩ ⟨s_b, trivial⟩ trivial)
    · rw [gstep_no (of_decide_eq_false h2)] at hft
      try refine e_fl ?_
      refine e_plain (w_op rfl rfl rfl (s_bin rfl (kn rfl) (kn rfl) (v_add64 (by first | omega | (dsimp only; omega) | omega))) (w_mv rfl rfl rfl rfl rfl .nil)) ?_
      try refine e_fl ?_
      refine e_again ⟨k + 1, by omega⟩ (by dsimp only; omega) (fun K => e_sub ⟨⟨_, rfl, Imp.of_eq (by rw [hft])⟩, s_t, s_t, s_t, s_t, s_t, trivial⟩ ⟨s_b, trivial⟩ trivial)
  obtain rfl : k = v.fields.length := by have := of_decide_eq_false h; omega
  rw [List.take_of_length_le (by simp)]
  have hb1 := hgb (v.fields.map (·.2)) (left - 1) (by omega)
  generalize (v.fields.map (·.2)).foldl (gstep (vgreat d)) (left - 1) = L1 at hb1 e2 ⊢
  try refine e_fl ?_
  refine e_plain (w_op rfl rfl rfl (s_faddr_box rfl (kn rfl) off_27_5) (w_op rfl rfl rfl (s_load1_box rfl (kn rfl) rfl rfl one_24) (w_op rfl rfl rfl (s_len rfl (kn rfl) sle_24) (w_mv rfl rfl rfl rfl rfl .nil)))) ?_
  try refine e_fl ?_
  refine e_loop (ι := { k : Nat // k ≤ (v.list).length })
    (fun k => [(1, .is (.int .i64 ((fun k => (v.list.take k).foldl (gstep (vgreat d)) L1) k.1))), (2, .is (.int .i64 ((d + 1 : Nat) : Int))), (3, .box 3 0), (46, .part (.one (.row 7 (v.list).length ((v.list).flatMap Vl.dats)))), (47, .is (.int .i64 ((v.list).length : Int))), (48, .is (.int .i64 (k.1 : Int)))])
    (fun _ => [(3, ⟨27, bcs (vd v)⟩)]) (fun _ => []) (fun k => (v.list).length - k.1) ⟨0, by omega⟩
    (fun K => e_sub ⟨s_t, s_t, s_t, s_t, s_t, s_t, trivial⟩ ⟨s_b, trivial⟩ trivial) ?_
  rintro ⟨k, hk⟩
  dsimp only at hk ⊢
  try refine e_fl ?_
  refine e_plain (w_op rfl rfl rfl (s_bin rfl (kn rfl) (kn rfl) v_lss) .nil) ?_
  try refine e_fl ?_
  refine e_cond rfl (fun h => ?_) (fun h => ?_)
  · have hlt : k < v.list.length := by have := of_decide_eq_true h; omega
    obtain ⟨x, hx⟩ : ∃ x, v.list[k]? = some x := ⟨_, List.getElem?_eq_getElem hlt⟩
    have hft : (v.list.take (k + 1)).foldl (gstep (vgreat d)) L1 = gstep (vgreat d) ((v.list.take k).foldl (gstep (vgreat d)) L1) x := fold_take hx
    have hb := hgb (v.list.take k) L1 (by omega)
    generalize (v.list.take k).foldl (gstep (vgreat d)) L1 = M at hft hb ⊢
    try refine e_fl ?_
    refine e_list ?_
    refine l_op (s_index rfl (kn rfl) (kn rfl) (by omega) hx Vl.dats_len sle_24 esz_24 (dats_vd x)) ?_
    refine l_op (s_loadn_ref rfl (kn rfl) agg_27 sz_27) ?_
    refine e_alloc 10 [.is (.int .i64 0), .is (.int .u64 0), .is (.string ⟨#[]⟩), .is (.slice none 0 0), .is (.string ⟨#[]⟩), .is (.slice none 0 0), .is (.slice none 0 0)] rfl rfl rfl rfl zr_27 (fun w D M V => ⟨rfl, fun j x v h1 h2 => cfit_is _ h1 h2 rfl⟩) rfl rfl rfl rfl ?_
    refine e_storew rfl rfl rfl (kn rfl) rfl (kn rfl) rfl rfl sz_27 ?_
    refine e_nil ?_
    try refine e_fl ?_
    refine e_plain (w_mv rfl rfl rfl rfl rfl (w_op rfl rfl rfl (s_bin rfl (kn rfl) (kn rfl) v_geq) .nil)) ?_
    try refine e_fl ?_
    refine e_cond rfl (fun h2 => ?_) (fun h2 => ?_)
    · have hM := of_decide_eq_true h2
      rw [gstep_yes hM] at hft
      try refine e_fl ?_
      refine e_plain (w_op rfl rfl rfl (s_loadn_box (ds := [_, _, _, _, _, _, _]) 7 rfl (kn rfl) rfl rfl agg_27 sz_27 rfl) (w_mv rfl rfl rfl rfl rfl (w_mv rfl rfl rfl rfl rfl (w_op rfl rfl rfl (s_bin rfl (kn rfl) (kn rfl) (v_dec d hd)) (w_op rfl rfl rfl (s_call rfl (by kernel_rfl) (ih x M (hv.elem (List.mem_of_getElem? hx)) hM (by omega)) ⟨(kn rfl), ⟨(kn rfl), ⟨(kn rfl), trivial⟩⟩⟩) (w_as rfl rfl rfl rfl rfl .nil)))))) ?_
      try refine e_fl ?_
      try refine e_fl ?_
      refine e_plain (w_op rfl rfl rfl (s_bin rfl (kn rfl) (kn rfl) (v_add64 (by first | omega | (dsimp only; omega) | omega))) (w_mv rfl rfl rfl rfl rfl .nil)) ?_
      try refine e_fl ?_
      refine e_again ⟨k + 1, by omega⟩ (by dsimp only; omega) (fun K => e_sub ⟨⟨_, rfl, Imp.of_eq (by rw [hft])⟩, s_t, s_t, s_t, s_t, s_t, trivial⟩ ⟨s_b, trivial⟩ trivial)
    · rw [gstep_no (of_decide_eq_false h2)] at hft
      try refine e_fl ?_
      refine e_plain (w_op rfl rfl rfl (s_bin rfl (kn rfl) (kn rfl) (v_add64 (by first | omega | (dsimp only; omega) | omega))) (w_mv rfl rfl rfl rfl rfl .nil)) ?_
      try refine e_fl ?_
      refine e_again ⟨k + 1, by omega⟩ (by dsimp only; omega) (fun K => e_sub ⟨⟨_, rfl, Imp.of_eq (by rw [hft])⟩, s_t, s_t, s_t, s_t, s_t, trivial⟩ ⟨s_b, trivial⟩ trivial)
  obtain rfl : k = v.list.length := by have := of_decide_eq_false h; omega
  rw [List.take_length]
  have hb2 := hgb v.list L1 (by omega)
  generalize v.list.foldl (gstep (vgreat d)) L1 = L2 at hb2 e2 ⊢
  try refine e_fl ?_
  refine e_plain (w_op rfl rfl rfl (s_faddr_box rfl (kn rfl) off_27_6) (w_op rfl rfl rfl (s_load1_box rfl (kn rfl) rfl rfl one_25) (w_op rfl rfl rfl (s_len rfl (kn rfl) sle_25) (w_mv rfl rfl rfl rfl rfl .nil)))) ?_
  try refine e_fl ?_
  refine e_loop (ι := { k : Nat // k ≤ (v.pairs).length })
    (fun k => [(1, .is (.int .i64 ((fun k => (gpairs (v.pairs.take k)).foldl (gstep (vgreat d)) L2) k.1))), (2, .is (.int .i64 ((d + 1 : Nat) : Int))), (3, .box 3 0), (61, .part (.one (.row 14 (v.pairs).length ((v.pairs).flatMap pairDats)))), (62, .is (.int .i64 ((v.pairs).length : Int))), (63, .is (.int .i64 (k.1 : Int)))])
    (fun _ => [(3, ⟨27, bcs (vd v)⟩)]) (fun _ => []) (fun k => (v.pairs).length - k.1) ⟨0, by omega⟩
    (fun K => e_sub ⟨s_t, s_t, s_t, s_t, s_t, s_t, trivial⟩ ⟨s_b, trivial⟩ trivial) ?_
  rintro ⟨k, hk⟩
  dsimp only at hk ⊢
  try refine e_fl ?_
  refine e_plain (w_op rfl rfl rfl (s_bin rfl (kn rfl) (kn rfl) v_lss) .nil) ?_
  try refine e_fl ?_
  refine e_cond rfl (fun h => ?_) (fun h => ?_)
  · have hlt : k < v.pairs.length := by have := of_decide_eq_true h; omega
    obtain ⟨x, hx⟩ : ∃ x, v.pairs[k]? = some x := ⟨_, List.getElem?_eq_getElem hlt⟩
    have hft := gpairs_take (g := gstep (vgreat d)) (l := L2) hx
    have hb := hgb (gpairs (v.pairs.take k)) L2 (by omega)
    generalize (gpairs (v.pairs.take k)).foldl (gstep (vgreat d)) L2 = M at hft hb ⊢
    try refine e_fl ?_
    refine e_list ?_
    refine l_op (s_index rfl (kn rfl) (kn rfl) (by omega) hx pairDats_len sle_25 esz_25 (pairDats_vd x)) ?_
    refine l_op (s_loadn_ref rfl (kn rfl) agg_62 sz_62) ?_
    refine e_alloc 12 [.is (.int .i64 0), .is (.int .u64 0), .is (.string ⟨#[]⟩), .is (.slice none 0 0), .is (.string ⟨#[]⟩), .is (.slice none 0 0), .is (.slice none 0 0), .is (.int .i64 0), .is (.int .u64 0), .is (.string ⟨#[]⟩), .is (.slice none 0 0), .is (.string ⟨#[]⟩), .is (.slice none 0 0), .is (.slice none 0 0)] rfl rfl rfl rfl zr_62 (fun w D M V => ⟨rfl, fun j x v h1 h2 => cfit_is _ h1 h2 rfl⟩) rfl rfl rfl rfl ?_
    refine e_storew rfl rfl rfl (kn rfl) rfl (kn rfl) rfl rfl sz_62 ?_
    refine e_nil ?_
    try refine e_fl ?_
    refine e_plain (w_mv rfl rfl rfl rfl rfl (w_op rfl rfl rfl (s_bin rfl (kn rfl) (kn rfl) v_geq) .nil)) ?_
    try refine e_fl ?_
    refine e_cond rfl (fun h2 => ?_) (fun h2 => ?_)
    · have hM := of_decide_eq_true h2
      rw [gstep_yes hM] at hft
      have hbd := vgreat_bd d x.1 M hM
      try refine e_fl ?_
      refine e_plain (w_op rfl rfl rfl (s_faddr_box rfl (kn rfl) off_62_0) (w_op rfl rfl rfl (s_loadn_box (ds := [_, _, _, _, _, _, _]) 7 rfl (kn rfl) rfl rfl agg_27 sz_27 rfl) (w_mv rfl rfl rfl rfl rfl (w_mv rfl rfl rfl rfl rfl (w_op rfl rfl rfl (s_bin rfl (kn rfl) (kn rfl) (v_dec d hd)) (w_op rfl rfl rfl (s_call rfl (by kernel_rfl) (ih x.1 M (hv.pair (List.mem_of_getElem? hx)).1 hM (by omega)) ⟨(kn rfl), ⟨(kn rfl), ⟨(kn rfl), trivial⟩⟩⟩) (w_as rfl rfl rfl rfl rfl .nil))))))) ?_
      try refine e_fl ?_
      try refine e_fl ?_
      refine e_plain (w_mv rfl rfl rfl rfl rfl (w_op rfl rfl rfl (s_bin rfl (kn rfl) (kn rfl) v_geq) .nil)) ?_
      try refine e_fl ?_
      refine e_cond rfl (fun h3 => ?_) (fun h3 => ?_)
      · have hM2 := of_decide_eq_true h3
        rw [gstep_yes hM2] at hft
        try refine e_fl ?_
        refine e_plain (w_op rfl rfl rfl (s_faddr_box rfl (kn rfl) off_62_1) (w_op rfl rfl rfl (s_loadn_box (ds := [_, _, _, _, _, _, _]) 7 rfl (kn rfl) rfl rfl agg_27 sz_27 rfl) (w_mv rfl rfl rfl rfl rfl (w_mv rfl rfl rfl rfl rfl (w_op rfl rfl rfl (s_bin rfl (kn rfl) (kn rfl) (v_dec d hd)) (w_op rfl rfl rfl (s_call rfl (by kernel_rfl) (ih x.2 (vgreat d x.1 M) (hv.pair (List.mem_of_getElem? hx)).2 hM2 (by omega)) ⟨(kn rfl), ⟨(kn rfl), ⟨(kn rfl), trivial⟩⟩⟩) (w_as rfl rfl rfl rfl rfl .nil))))))) ?_
        try refine e_fl ?_
        try refine e_fl ?_
        refine e_plain (w_op rfl rfl rfl (s_bin rfl (kn rfl) (kn rfl) (v_add64 (by first | omega | (dsimp only; omega) | omega))) (w_mv rfl rfl rfl rfl rfl .nil)) ?_
        try refine e_fl ?_
        refine e_again ⟨k + 1, by omega⟩ (by dsimp only; omega) (fun K => e_sub ⟨⟨_, rfl, Imp.of_eq (by rw [hft])⟩, s_t, s_t, s_t, s_t, s_t, trivial⟩ ⟨s_b, trivial⟩ trivial)
      · rw [gstep_no (of_decide_eq_false h3)] at hft
        try refine e_fl ?_
        refine e_plain (w_op rfl rfl rfl (s_bin rfl (kn rfl) (kn rfl) (v_add64 (by first | omega | (dsimp only; omega) | omega))) (w_mv rfl rfl rfl rfl rfl .nil)) ?_
        try refine e_fl ?_
        refine e_again ⟨k + 1, by omega⟩ (by dsimp only; omega) (fun K => e_sub ⟨⟨_, rfl, Imp.of_eq (by rw [hft])⟩, s_t, s_t, s_t, s_t, s_t, trivial⟩ ⟨s_b, trivial⟩ trivial)
    · rw [gstep_no (of_decide_eq_false h2), gstep_no (of_decide_eq_false h2)] at hft
      try refine e_fl ?_
      refine e_plain (w_mv rfl rfl rfl rfl rfl (w_op rfl rfl rfl (s_bin rfl (kn rfl) (kn rfl) v_geq) .nil)) ?_
      try refine e_fl ?_
      refine e_cond rfl (fun h3 => ?_) (fun h3 => ?_)
      · exact absurd (of_decide_eq_true h3) (of_decide_eq_false h2)
      try refine e_fl ?_
      refine e_plain (w_op rfl rfl rfl (s_bin rfl (kn rfl) (kn rfl) (v_add64 (by first | omega | (dsimp only; omega) | omega))) (w_mv rfl rfl rfl rfl rfl .nil)) ?_
      try refine e_fl ?_
      refine e_again ⟨k + 1, by omega⟩ (by dsimp only; omega) (fun K => e_sub ⟨⟨_, rfl, Imp.of_eq (by rw [hft])⟩, s_t, s_t, s_t, s_t, s_t, trivial⟩ ⟨s_b, trivial⟩ trivial)
  obtain rfl : k = v.pairs.length := by have := of_decide_eq_false h; omega
  rw [List.take_length]
  try refine e_fl ?_
  refine e_plain (w_mv rfl rfl rfl rfl rfl (w_as rfl rfl rfl rfl rfl .nil)) ?_
  try refine e_fl ?_
  exact e_return rfl rfl (.tmp (kn rfl) (.nil)) (Imp.of_eq (by rw [e2]; rfl)) rfl
theorem great_ef : ∀ d : Nat, d ≤ 1000 → GreatE d
  | 0, _ => great_zero
  | d + 1, h => great_succ d (by omega) (great_ef d (by omega))
def vbig (v : Vl) (most : Int) : Bool := decide (vgreat 30 v most < 0)
set_option maxRecDepth 100000 in
theorem big_ef (v : Vl) (most : Int) (hv : v.Fine) (h0 : 0 ≤ most) (h1 : most ≤ 1000000) : EF Try.prog [] 8 [.many (vd v), iP most] (.part (tP (vbig v most))) := by
  refine ef_enter 9 Try.func8 rfl rfl rfl fun w D => ?_
  try refine e_fl ?_
  refine e_list ?_
  refine e_box 2 rfl rfl rfl rfl (kn rfl) rfl rfl rfl rfl ?_
  refine l_as ?_
  refine e_nil ?_
  try refine e_fl ?_
  refine e_plain (w_op rfl rfl rfl (s_loadn_box (ds := [_, _, _, _, _, _, _]) 7 rfl (kn rfl) rfl rfl agg_27 sz_27 rfl) (w_mv rfl rfl rfl rfl rfl (w_op rfl rfl rfl (s_call rfl (by kernel_rfl) (great_ef 30 (by omega) v most hv h0 h1) ⟨(kn rfl), ⟨(kn rfl), ⟨(kn rfl), trivial⟩⟩⟩) (w_op rfl rfl rfl (s_bin rfl (kn rfl) (kn rfl) v_lss) (w_as rfl rfl rfl rfl rfl .nil))))) ?_
  try refine e_fl ?_
  exact e_return rfl rfl (.tmp (kn rfl) (.nil)) (Imp.of_eq rfl) rfl
theorem vbig_no {v : Vl} {most : Int} (h0 : 0 ≤ most) (h : vbig v most = false) : (vnodes v : Int) ≤ most ∧ v.Tx := by
  have h1 := of_decide_eq_false h
  have h2 := vgreat_ok 30 v most h0 (by omega)
  exact ⟨by omega, h2.2.tx⟩
end Go.Proofs.Ytlikbiiimhfnkaa
