/- Part 9 of what the last text of this claim is proved by: walks over the program, and the math behind them. Conditions: as each theorem says. -/
import Derived.Test.YtlikbiiimhfnkaaVP08
import Derived.Test.YtlikbiiimhfnkaaProg
import Derived.OpenShut
namespace Go.Proofs.Ytlikbiiimhfnkaa
open Go.RowKit
mutual
def Vl.dats : Vl → List Dat
  | .mk k n t fs r ls ps => [.cell (.int .i64 k), .cell (.int .u64 (n : Int)), .cell (.string (str t)), .row 8 fs.length (fdats fs), .cell (.string (str r)), .row 7 ls.length (ldats ls), .row 14 ps.length (pdats ps)]
def fdats : List (Int × Vl) → List Dat
  | [] => []
  | (n, x) :: fs => (.cell (.int .i64 n) :: x.dats) ++ fdats fs
def ldats : List Vl → List Dat
  | [] => []
  | x :: ls => x.dats ++ ldats ls
def pdats : List (Vl × Vl) → List Dat
  | [] => []
  | (k, x) :: ps => (k.dats ++ x.dats) ++ pdats ps
end
def fieldDats (f : Int × Vl) : List Dat := .cell (.int .i64 f.1) :: f.2.dats
def pairDats (p : Vl × Vl) : List Dat := p.1.dats ++ p.2.dats
theorem fdats_eq : ∀ fs : List (Int × Vl), fdats fs = fs.flatMap fieldDats
  | [] => by simp [fdats]
  | (n, x) :: fs => by rw [fdats, fdats_eq fs, List.flatMap_cons]; rfl
theorem ldats_eq : ∀ ls : List Vl, ldats ls = ls.flatMap Vl.dats
  | [] => by simp [ldats]
  | x :: ls => by rw [ldats, ldats_eq ls, List.flatMap_cons]
theorem pdats_eq : ∀ ps : List (Vl × Vl), pdats ps = ps.flatMap pairDats
  | [] => by simp [pdats]
  | (k, x) :: ps => by rw [pdats, pdats_eq ps, List.flatMap_cons]; rfl
theorem Vl.dats_eq (v : Vl) : v.dats = [.cell (.int .i64 v.kind), .cell (.int .u64 (v.num : Int)), .cell (.string (str v.text)), .row 8 v.fields.length (v.fields.flatMap fieldDats), .cell (.string (str v.rest)), .row 7 v.list.length (v.list.flatMap Vl.dats), .row 14 v.pairs.length (v.pairs.flatMap pairDats)] := by
  cases v
  rw [Vl.dats, fdats_eq, ldats_eq, pdats_eq]
  rfl
theorem Vl.dats_len (v : Vl) : v.dats.length = 7 := by rw [v.dats_eq]; rfl
theorem fieldDats_len (f : Int × Vl) : (fieldDats f).length = 8 := by unfold fieldDats; rw [List.length_cons, Vl.dats_len]
theorem pairDats_len (p : Vl × Vl) : (pairDats p).length = 14 := by unfold pairDats; rw [List.length_append, Vl.dats_len, Vl.dats_len]
def vcells (v : Vl) (f l p : Value) : List Value := [.int .i64 v.kind, .int .u64 (v.num : Int), .string (str v.text), f, .string (str v.rest), l, p]
structure Vin (w : World) (D : Nat → Prop) (v : Vl) (pf : Option Addr) (cf : Nat) (pl : Option Addr) (cl : Nat) (pp : Option Addr) (cp : Nat) : Prop where
  fields : RowD w D 8 pf fieldDats v.fields
  list : RowD w D 7 pl Vl.dats v.list
  pairs : RowD w D 14 pp pairDats v.pairs
theorem Fits.seven {w : World} {D : Nat → Prop} {a b c d e f g : Dat} {xs : List Value} (h : Fits w D [a, b, c, d, e, f, g] xs) :
    ∃ x0 x1 x2 x3 x4 x5 x6, xs = [x0, x1, x2, x3, x4, x5, x6] ∧ Lies w D a x0 ∧ Lies w D b x1 ∧ Lies w D c x2 ∧ Lies w D d x3 ∧ Lies w D e x4 ∧ Lies w D f x5 ∧ Lies w D g x6 := by
  obtain ⟨x0, y0, rfl, h0, k0⟩ := Fits.head h
  obtain ⟨x1, y1, rfl, h1, k1⟩ := Fits.head k0
  obtain ⟨x2, y2, rfl, h2, k2⟩ := Fits.head k1
  obtain ⟨x3, y3, rfl, h3, k3⟩ := Fits.head k2
  obtain ⟨x4, y4, rfl, h4, k4⟩ := Fits.head k3
  obtain ⟨x5, y5, rfl, h5, k5⟩ := Fits.head k4
  obtain ⟨x6, y6, rfl, h6, k6⟩ := Fits.head k5
  obtain rfl : y6 = [] := List.eq_nil_of_length_eq_zero k6.1.symm
  exact ⟨x0, x1, x2, x3, x4, x5, x6, rfl, h0, h1, h2, h3, h4, h5, h6⟩
theorem Vl.lies {w : World} {D : Nat → Prop} {v : Vl} {f l p : Value} (h : Fits w D v.dats (vcells v f l p)) : Lies w D (.row 8 v.fields.length (v.fields.flatMap fieldDats)) f ∧ Lies w D (.row 7 v.list.length (v.list.flatMap Vl.dats)) l ∧ Lies w D (.row 14 v.pairs.length (v.pairs.flatMap pairDats)) p := by
  rw [v.dats_eq] at h
  obtain ⟨x0, x1, x2, x3, x4, x5, x6, e, h0, h1, h2, h3, h4, h5, h6⟩ := Fits.seven h
  simp only [vcells, List.cons.injEq, and_true] at e
  obtain ⟨_, _, _, rfl, _, rfl, rfl⟩ := e
  exact ⟨h3, h5, h6⟩
theorem Vl.shut {w : World} {D : Nat → Prop} {v : Vl} {f l p : Value} (hf : Lies w D (.row 8 v.fields.length (v.fields.flatMap fieldDats)) f) (hl : Lies w D (.row 7 v.list.length (v.list.flatMap Vl.dats)) l) (hp : Lies w D (.row 14 v.pairs.length (v.pairs.flatMap pairDats)) p) : Fits w D v.dats (vcells v f l p) := by
  rw [v.dats_eq]
  exact .cons (.cell _) (.cons (.cell _) (.cons (.cell _) (.cons hf (.cons (.cell _) (.cons hl (.cons hp (.nil _ _)))))))
theorem Vin.stay {w w' : World} {D : Nat → Prop} {v : Vl} {pf : Option Addr} {cf : Nat} {pl : Option Addr} {cl : Nat} {pp : Option Addr} {cp : Nat} (h : Vin w D v pf cf pl cl pp cp) (hk : Keeps D w w') : Vin w' D v pf cf pl cl pp cp := ⟨h.fields.stay hk, h.list.stay hk, h.pairs.stay hk⟩
theorem Fits.split {w : World} {D : Nat → Prop} {ds es : List Dat} {xs : List Value} (h : Fits w D (ds ++ es) xs) : ∃ ys zs, xs = ys ++ zs ∧ Fits w D ds ys ∧ Fits w D es zs := by
  have hl := h.1
  rw [List.length_append] at hl
  refine ⟨xs.take ds.length, xs.drop ds.length, (List.take_append_drop _ _).symm, ?_, ?_⟩
  · have := h.part 0 ds.length
    simpa using this
  · have := h.part ds.length es.length
    rw [List.drop_left, List.take_length] at this
    rwa [List.take_of_length_le (by rw [List.length_drop]; omega)] at this
inductive Vl.Fine : Vl → Prop where
  | mk (v : Vl) : -9223372036854775808 ≤ v.kind → v.kind < 9223372036854775808 → v.num < 18446744073709551616 → v.text.length ≤ maxLen → v.rest.length ≤ maxLen → v.fields.length ≤ maxLen → v.list.length ≤ maxLen → v.pairs.length ≤ maxLen →
    (∀ f ∈ v.fields, -9223372036854775808 ≤ f.1 ∧ f.1 < 9223372036854775808) → (∀ f ∈ v.fields, Fine f.2) → (∀ x ∈ v.list, Fine x) → (∀ p ∈ v.pairs, Fine p.1) → (∀ p ∈ v.pairs, Fine p.2) → Fine v
theorem Vl.Fine.bounds {v : Vl} (h : v.Fine) : v.num < 18446744073709551616 ∧ v.text.length ≤ maxLen ∧ v.rest.length ≤ maxLen ∧ v.fields.length ≤ maxLen ∧ v.list.length ≤ maxLen ∧ v.pairs.length ≤ maxLen ∧ -9223372036854775808 ≤ v.kind ∧ v.kind < 9223372036854775808 := by
  cases h
  exact ⟨‹_›, ‹_›, ‹_›, ‹_›, ‹_›, ‹_›, ‹_›, ‹_›⟩
theorem Vl.Fine.field {v : Vl} (h : v.Fine) {f : Int × Vl} (hf : f ∈ v.fields) : (-9223372036854775808 ≤ f.1 ∧ f.1 < 9223372036854775808) ∧ f.2.Fine := by
  cases h with
  | mk v a b c d e f g h i j k l m => exact ⟨i _ hf, j _ hf⟩
theorem Vl.Fine.elem {v : Vl} (h : v.Fine) {x : Vl} (hx : x ∈ v.list) : x.Fine := by
  cases h with
  | mk v a b c d e f g h i j k l m => exact k _ hx
theorem Vl.Fine.pair {v : Vl} (h : v.Fine) {p : Vl × Vl} (hp : p ∈ v.pairs) : p.1.Fine ∧ p.2.Fine := by
  cases h with
  | mk v a b c d e f g h i j k l m => exact ⟨l _ hp, m _ hp⟩
end Go.Proofs.Ytlikbiiimhfnkaa
namespace Go.Proofs.Ytlikbiiimhfnkaa
open Go
def gstep (g : Vl → Int → Int) (l : Int) (x : Vl) : Int := if 0 ≤ l then g x l else l
def gkids (v : Vl) : List Vl := v.fields.map (·.2) ++ (v.list ++ v.pairs.flatMap fun p => [p.1, p.2])
def vgreat : Nat → Vl → Int → Int
  | 0, _, _ => -1
  | d + 1, v, left => if 400 < v.text.length ∨ 400 < v.rest.length then -1 else (gkids v).foldl (gstep (vgreat d)) (left - 1)
theorem gfold_bd (g : Vl → Int → Int) (hg : ∀ x l, 0 ≤ l → -1 ≤ g x l ∧ g x l ≤ l - 1) : ∀ (xs : List Vl) (l : Int), -1 ≤ l → -1 ≤ xs.foldl (gstep g) l ∧ xs.foldl (gstep g) l ≤ l
  | [], l, h => ⟨h, Int.le_refl _⟩
  | x :: xs, l, h => by
    have h1 : -1 ≤ gstep g l x ∧ gstep g l x ≤ l := by
      unfold gstep
      split
      · rename_i h0
        have := hg x l h0
        omega
      · exact ⟨h, Int.le_refl _⟩
    have := gfold_bd g hg xs _ h1.1
    rw [List.foldl_cons]
    omega
theorem vgreat_bd : ∀ (d : Nat) (v : Vl) (left : Int), 0 ≤ left → -1 ≤ vgreat d v left ∧ vgreat d v left ≤ left - 1
  | 0, _, left, h => by unfold vgreat; omega
  | d + 1, v, left, h => by
    unfold vgreat
    split
    · omega
    · exact gfold_bd _ (fun x l hl => vgreat_bd d x l hl) _ _ (by omega)
inductive Small : Nat → Vl → Prop where
  | mk (d : Nat) (v : Vl) : v.text.length ≤ 400 → v.rest.length ≤ 400 → (∀ x ∈ gkids v, Small d x) → Small (d + 1) v
theorem gnodes (v : Vl) : vnodes v = 1 + lnodes (gkids v) := by
  have h : ∀ a b, lnodes (a ++ b) = lnodes a + lnodes b := fun a b => by
    induction a with
    | nil => simp [lnodes]
    | cons x a ih => rw [List.cons_append, lnodes, lnodes, ih]; omega
  have hf : ∀ fs : List (Int × Vl), lnodes (fs.map (·.2)) = fnodes fs := fun fs => by
    induction fs with
    | nil => simp [lnodes, fnodes]
    | cons f fs ih => obtain ⟨n, x⟩ := f; rw [List.map_cons, lnodes, fnodes, ih]
  have hp : ∀ ps : List (Vl × Vl), lnodes (ps.flatMap fun p => [p.1, p.2]) = pnodes ps := fun ps => by
    induction ps with
    | nil => simp [lnodes, pnodes]
    | cons p ps ih => obtain ⟨k, x⟩ := p; rw [List.flatMap_cons, h, ih, lnodes, lnodes, lnodes, pnodes]; dsimp only; omega
  unfold gkids
  rw [h, h, hf, hp, vnodes_eq]
  omega
theorem gfold_ok (g : Vl → Int → Int) (d : Nat) (hb : ∀ x l, 0 ≤ l → -1 ≤ g x l ∧ g x l ≤ l - 1) (hg : ∀ x l, 0 ≤ l → 0 ≤ g x l → (vnodes x : Int) ≤ l - g x l ∧ Small d x) : ∀ (xs : List Vl) (l : Int), -1 ≤ l → 0 ≤ xs.foldl (gstep g) l → (lnodes xs : Int) ≤ l - xs.foldl (gstep g) l ∧ ∀ x ∈ xs, Small d x
  | [], l, _, h => by simp [lnodes]
  | x :: xs, l, hl, h => by
    rw [List.foldl_cons] at h ⊢
    have h1 : -1 ≤ gstep g l x := by
      unfold gstep
      split
      · rename_i h0; exact (hb x l h0).1
      · exact hl
    have hle := (gfold_bd g hb xs _ h1).2
    obtain ⟨h2, h3⟩ := gfold_ok g d hb hg xs _ h1 h
    have h0 : 0 ≤ l := by
      rcases Int.lt_or_le l 0 with hn | hn
      · have : gstep g l x = l := if_neg (by omega)
        omega
      · exact hn
    have e : gstep g l x = g x l := if_pos h0
    rw [e] at h2 h hle ⊢
    obtain ⟨h4, h5⟩ := hg x l h0 (by omega)
    refine ⟨?_, fun y hy => ?_⟩
    · rw [lnodes]
      omega
    · rcases List.mem_cons.1 hy with h | h
      · rw [h]; exact h5
      · exact h3 y h
theorem vgreat_ok : ∀ (d : Nat) (v : Vl) (left : Int), 0 ≤ left → 0 ≤ vgreat d v left → (vnodes v : Int) ≤ left - vgreat d v left ∧ Small d v
  | 0, _, left, _, h => by unfold vgreat at h; omega
  | d + 1, v, left, hl, h => by
    unfold vgreat at h ⊢
    split at h
    · omega
    · rename_i ht
      rw [if_neg ht]
      obtain ⟨h1, h2⟩ := gfold_ok (vgreat d) d (fun x l hl => vgreat_bd d x l hl) (fun x l hl h => vgreat_ok d x l hl h) (gkids v) (left - 1) (by omega) h
      rw [gnodes]
      exact ⟨by omega, .mk d v (by omega) (by omega) h2⟩
theorem gkids_pair {v : Vl} {p : Vl × Vl} (h : p ∈ v.pairs) : p.1 ∈ gkids v ∧ p.2 ∈ gkids v := by
  constructor <;> refine List.mem_append_right _ (List.mem_append_right _ (List.mem_flatMap.2 ⟨p, h, ?_⟩)) <;> simp
theorem fold_take {g : Int → Vl → Int} {xs : List Vl} {l : Int} {k : Nat} {x : Vl} (h : xs[k]? = some x) : (xs.take (k + 1)).foldl g l = g ((xs.take k).foldl g l) x := by
  have hk := (List.getElem?_eq_some_iff.1 h).1
  rw [List.take_add_one, h, List.foldl_append]
  rfl
def gpairs (ps : List (Vl × Vl)) : List Vl := ps.flatMap fun p => [p.1, p.2]
theorem gpairs_take {g : Int → Vl → Int} {ps : List (Vl × Vl)} {l : Int} {k : Nat} {p : Vl × Vl} (h : ps[k]? = some p) : (gpairs (ps.take (k + 1))).foldl g l = g (g ((gpairs (ps.take k)).foldl g l) p.1) p.2 := by
  unfold gpairs
  rw [List.take_add_one, h, Option.toList_some, List.flatMap_append, List.foldl_append]
  rfl
def rkids (v : Vl) : List Vl := v.list ++ v.fields.map (·.2) ++ gpairs v.pairs
theorem lnodes_append : ∀ a b : List Vl, lnodes (a ++ b) = lnodes a + lnodes b
  | [], b => by simp [lnodes]
  | x :: a, b => by rw [List.cons_append, lnodes, lnodes, lnodes_append a b]; omega
theorem lnodes_fields : ∀ fs : List (Int × Vl), lnodes (fs.map (·.2)) = fnodes fs
  | [] => by simp [lnodes, fnodes]
  | (n, x) :: fs => by rw [List.map_cons, lnodes, fnodes, lnodes_fields fs]
theorem gpairs_cons (p : Vl × Vl) (ps : List (Vl × Vl)) : gpairs (p :: ps) = p.1 :: p.2 :: gpairs ps := by
  unfold gpairs
  rw [List.flatMap_cons]
  rfl
theorem lnodes_pairs : ∀ ps : List (Vl × Vl), lnodes (gpairs ps) = pnodes ps
  | [] => by simp [gpairs, lnodes, pnodes]
  | (k, x) :: ps => by rw [gpairs_cons, lnodes, lnodes, lnodes_pairs ps, pnodes]; dsimp only; omega
theorem rkids_nodes (v : Vl) : vnodes v = 1 + lnodes (rkids v) := by
  unfold rkids
  rw [lnodes_append, lnodes_append, lnodes_fields, lnodes_pairs, vnodes_eq]
  omega
theorem lsize_append : ∀ a b : List Vl, lsize (a ++ b) = lsize a + lsize b
  | [], b => by simp [lsize]
  | x :: a, b => by rw [List.cons_append, lsize, lsize, lsize_append a b]; omega
theorem lsize_fields : ∀ fs : List (Int × Vl), lsize (fs.map (·.2)) = fsize fs
  | [] => by simp [lsize, fsize]
  | (n, x) :: fs => by rw [List.map_cons, lsize, fsize, lsize_fields fs]
theorem lsize_pairs : ∀ ps : List (Vl × Vl), lsize (gpairs ps) = psize ps
  | [] => by simp [gpairs, lsize, psize]
  | (k, x) :: ps => by rw [gpairs_cons, lsize, lsize, lsize_pairs ps, psize]; dsimp only; omega
theorem ldepth_append : ∀ a b : List Vl, ldepth (a ++ b) = max (ldepth a) (ldepth b)
  | [], b => by simp [ldepth]
  | x :: a, b => by rw [List.cons_append, ldepth, ldepth, ldepth_append a b]; omega
theorem ldepth_fields : ∀ fs : List (Int × Vl), ldepth (fs.map (·.2)) = fdepth fs
  | [] => by simp [ldepth, fdepth]
  | (n, x) :: fs => by rw [List.map_cons, ldepth, fdepth, ldepth_fields fs]
theorem ldepth_pairs : ∀ ps : List (Vl × Vl), ldepth (gpairs ps) = pdepth ps
  | [] => by simp [gpairs, ldepth, pdepth]
  | (k, x) :: ps => by rw [gpairs_cons, ldepth, ldepth, ldepth_pairs ps, pdepth]; dsimp only; omega
theorem rkids_mem {v x : Vl} (h : x ∈ rkids v) : SizeOf.sizeOf x < SizeOf.sizeOf v ∧ (v.Fine → x.Fine) ∧ vnodes x < vnodes v := by
  have hn : vnodes x < vnodes v := by rw [rkids_nodes v]; have := lnodes_mem h; omega
  unfold rkids gpairs at h
  simp only [List.mem_append, List.mem_map, List.mem_flatMap, List.mem_cons, List.not_mem_nil, or_false] at h
  rcases h with (h | ⟨f, hf, rfl⟩) | ⟨p, hp, rfl | rfl⟩
  · exact ⟨Vl.list_lt h, fun k => k.elem h, hn⟩
  · exact ⟨Vl.field_lt hf, fun k => (k.field hf).2, hn⟩
  · exact ⟨(Vl.key_lt hp).1, fun k => (k.pair hp).1, hn⟩
  · exact ⟨(Vl.key_lt hp).2, fun k => (k.pair hp).2, hn⟩
theorem rkids_ind {P : Vl → Prop} (h : ∀ v : Vl, (∀ x ∈ rkids v, P x) → P v) (v : Vl) : P v := by
  generalize hn : SizeOf.sizeOf v = n
  induction n using Nat.strongRecOn generalizing v with
  | ind n ih =>
    subst hn
    exact h v fun x hx => ih _ (rkids_mem hx).1 _ rfl
theorem lsize_take {l : List Vl} {k : Nat} {x : Vl} (h : l[k]? = some x) : lsize (l.take (k + 1)) = lsize (l.take k) + vsize x := by
  rw [List.take_add_one, h, Option.toList_some, lsize_append, lsize, lsize]
  omega
theorem ldepth_take {l : List Vl} {k : Nat} {x : Vl} (h : l[k]? = some x) : ldepth (l.take (k + 1)) = max (ldepth (l.take k)) (vdepth x) := by
  rw [List.take_add_one, h, Option.toList_some, ldepth_append, ldepth, ldepth]
  omega
theorem lsize_le : ∀ l : List Vl, lsize l ≤ lnodes l ∧ ldepth l ≤ lnodes l
  | [] => by simp [lsize, lnodes, ldepth]
  | x :: l => by
    rw [lsize, lnodes, ldepth]
    have := lsize_le l
    have := size_le x
    omega
theorem lnodes_take (l : List Vl) (k : Nat) : lnodes (l.take k) ≤ lnodes l := by
  have h := lnodes_append (l.take k) (l.drop k)
  rw [List.take_append_drop] at h
  omega
theorem Small.parts {d : Nat} {v : Vl} (h : Small (d + 1) v) : v.text.length ≤ 400 ∧ v.rest.length ≤ 400 ∧ ∀ x ∈ gkids v, Small d x := by
  cases h
  exact ⟨‹_›, ‹_›, ‹_›⟩
end Go.Proofs.Ytlikbiiimhfnkaa
