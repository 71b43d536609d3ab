/- Part 10 of what the last text of this claim is proved by: walks over the program, and the math behind them. Conditions: as each theorem says. -/
import Derived.Test.YtagoikglbifhmaaGreatDoorPB09
import Derived.Test.YtagoikglbifhmaaGreatDoorProg
import Derived.Laws.Entries
import Derived.ChangeArms
import Derived.Deep.Slices
import Derived.Deep.Fields
import Derived.ChangeSame
import Derived.OpenShut
namespace Go.Proofs.YtagoikglbifhmaaGreatDoor
open Go.RowKit
theorem one_3 : oneT Tryz.prog 3 = true := by kernel_rfl
theorem sz_3 : sizeT Tryz.prog 3 = some 1 := by kernel_rfl
theorem zr_3 : zeroT Tryz.prog 3 = some [.int .i64 0] := by kernel_rfl
theorem one_4 : oneT Tryz.prog 4 = true := by kernel_rfl
theorem sz_5 : sizeT Tryz.prog 5 = some 1 := by kernel_rfl
theorem int_5 : Tryz.prog.underlying 5 = some (.int .u8) := by kernel_rfl
theorem zr_5 : zeroT Tryz.prog 5 = some [.int .u8 0] := by kernel_rfl
theorem one_9 : oneT Tryz.prog 9 = true := by kernel_rfl
theorem sz_9 : sizeT Tryz.prog 9 = some 1 := by kernel_rfl
theorem str_9 : Tryz.prog.underlying 9 = some .string := by kernel_rfl
theorem one_22 : oneT Tryz.prog 22 = true := by kernel_rfl
theorem sz_22 : sizeT Tryz.prog 22 = some 1 := by kernel_rfl
theorem one_23 : oneT Tryz.prog 23 = true := by kernel_rfl
theorem sz_23 : sizeT Tryz.prog 23 = some 1 := by kernel_rfl
theorem sle_23 : Tryz.prog.underlying 23 = some (.slice (Tryz.prog.elem 23)) := by kernel_rfl
theorem esz_23 : sizeT Tryz.prog (Tryz.prog.elem 23) = some 8 := by kernel_rfl
theorem one_24 : oneT Tryz.prog 24 = true := by kernel_rfl
theorem sz_24 : sizeT Tryz.prog 24 = some 1 := by kernel_rfl
theorem sle_24 : Tryz.prog.underlying 24 = some (.slice (Tryz.prog.elem 24)) := by kernel_rfl
theorem esz_24 : sizeT Tryz.prog (Tryz.prog.elem 24) = some 7 := by kernel_rfl
theorem one_25 : oneT Tryz.prog 25 = true := by kernel_rfl
theorem sz_25 : sizeT Tryz.prog 25 = some 1 := by kernel_rfl
theorem sle_25 : Tryz.prog.underlying 25 = some (.slice (Tryz.prog.elem 25)) := by kernel_rfl
theorem esz_25 : sizeT Tryz.prog (Tryz.prog.elem 25) = some 14 := by kernel_rfl
theorem agg_27 : aggT Tryz.prog 27 = true := by kernel_rfl
theorem sz_27 : sizeT Tryz.prog 27 = some 7 := by kernel_rfl
theorem off_27_0 : foff Tryz.prog 27 0 = some 0 := by kernel_rfl
theorem off_27_1 : foff Tryz.prog 27 1 = some 1 := by kernel_rfl
theorem off_27_2 : foff Tryz.prog 27 2 = some 2 := by kernel_rfl
theorem off_27_3 : foff Tryz.prog 27 3 = some 3 := by kernel_rfl
theorem off_27_4 : foff Tryz.prog 27 4 = some 4 := by kernel_rfl
theorem off_27_5 : foff Tryz.prog 27 5 = some 5 := by kernel_rfl
theorem off_27_6 : foff Tryz.prog 27 6 = some 6 := by kernel_rfl
theorem pl_27 : placesT Tryz.prog 27 = some [(0, 1), (1, 1), (2, 1), (3, 1), (4, 1), (5, 1), (6, 1)] := by kernel_rfl
theorem zr_27 : zeroT Tryz.prog 27 = some [.int .i64 0, .int .u64 0, .string ⟨#[]⟩, .slice none 0 0, .string ⟨#[]⟩, .slice none 0 0, .slice none 0 0] := by kernel_rfl
theorem sl_29 : Tryz.prog.underlying 29 = some (.slice 62) := by kernel_rfl
theorem sle_29 : Tryz.prog.underlying 29 = some (.slice (Tryz.prog.elem 29)) := by kernel_rfl
theorem esz_29 : sizeT Tryz.prog (Tryz.prog.elem 29) = some 10 := by kernel_rfl
theorem ap_29 : (Tryz.prog.info? 62).map (fun i => (i.size, i.bytes, i.zero.map (·.cells.size))) = some (10, 144, some 10) := by kernel_rfl
theorem one_56 : oneT Tryz.prog 56 = true := by kernel_rfl
noncomputable def ifcms_56 : Array (String × TypeId) := match Tryz.prog.underlying 56 with | some (.interface ms) => ms | _ => #[]
theorem ifc_56 : Tryz.prog.underlying 56 = some (.interface ifcms_56) := by kernel_rfl
theorem agg_62 : aggT Tryz.prog 62 = true := by kernel_rfl
theorem sz_62 : sizeT Tryz.prog 62 = some 10 := by kernel_rfl
theorem off_62_0 : foff Tryz.prog 62 0 = some 0 := by kernel_rfl
theorem off_62_1 : foff Tryz.prog 62 1 = some 1 := by kernel_rfl
theorem off_62_2 : foff Tryz.prog 62 2 = some 2 := by kernel_rfl
theorem off_62_3 : foff Tryz.prog 62 3 = some 3 := by kernel_rfl
theorem pl_62 : placesT Tryz.prog 62 = some [(0, 1), (1, 1), (2, 1), (3, 7)] := by kernel_rfl
theorem zr_62 : zeroT Tryz.prog 62 = some [.int .i64 0, .int .i64 0, .int .i64 0, .int .i64 0, .int .u64 0, .string ⟨#[]⟩, .slice none 0 0, .string ⟨#[]⟩, .slice none 0 0, .slice none 0 0] := by kernel_rfl
theorem agg_66 : aggT Tryz.prog 66 = true := by kernel_rfl
theorem sz_66 : sizeT Tryz.prog 66 = some 8 := by kernel_rfl
theorem off_66_0 : foff Tryz.prog 66 0 = some 0 := by kernel_rfl
theorem off_66_1 : foff Tryz.prog 66 1 = some 1 := by kernel_rfl
theorem zr_66 : zeroT Tryz.prog 66 = some [.int .i64 0, .int .i64 0, .int .u64 0, .string ⟨#[]⟩, .slice none 0 0, .string ⟨#[]⟩, .slice none 0 0, .slice none 0 0] := by kernel_rfl
theorem agg_82 : aggT Tryz.prog 82 = true := by kernel_rfl
theorem sz_82 : sizeT Tryz.prog 82 = some 14 := by kernel_rfl
theorem off_82_0 : foff Tryz.prog 82 0 = some 0 := by kernel_rfl
theorem off_82_1 : foff Tryz.prog 82 1 = some 7 := by kernel_rfl
theorem zr_82 : zeroT Tryz.prog 82 = some [.int .i64 0, .int .u64 0, .string ⟨#[]⟩, .slice none 0 0, .string ⟨#[]⟩, .slice none 0 0, .slice none 0 0, .int .i64 0, .int .u64 0, .string ⟨#[]⟩, .slice none 0 0, .string ⟨#[]⟩, .slice none 0 0, .slice none 0 0] := by kernel_rfl
theorem sl_97 : Tryz.prog.underlying 97 = some (.slice 5) := by kernel_rfl
theorem ap_97 : (Tryz.prog.info? 5).map (fun i => (i.size, i.bytes, i.zero.map (·.cells.size))) = some (1, 1, some 1) := by kernel_rfl
theorem sz_145 : sizeT Tryz.prog 145 = some 256 := by kernel_rfl
theorem sl_156 : Tryz.prog.underlying 156 = some (.slice 3) := by kernel_rfl
theorem sle_156 : Tryz.prog.underlying 156 = some (.slice (Tryz.prog.elem 156)) := by kernel_rfl
theorem esz_156 : sizeT Tryz.prog (Tryz.prog.elem 156) = some 1 := by kernel_rfl
theorem mixed : Tryz.prog.follows .mixedOrders = true := by kernel_rfl
end Go.Proofs.YtagoikglbifhmaaGreatDoor
namespace Go.Proofs.YtagoikglbifhmaaGreatDoor
open Go.RowKit
section
variable {P : Program} {t : TypeId} {a b : List UInt8}
end
theorem s_convk {P : Program} {cx : Cx} {T : TL} {B : BL} {R : RL} {o : Oper} {x : Operand} {src dst : TypeId} {k k' : IntKind} {n z : Int} (ho : o.op = .convert src dst x) (hx : Kn T x (.is (.int k n))) (hs : (P.underlying src).isSome = true) (hd : P.underlying dst = some (.int k')) (hi : P.intKind dst = k') (hz : k'.wrap n = z) : LStep P cx B R o T (.is (.int k' z)) := LStep.same fun M V w a _ hk => by
  have h1 := (hk x _ (by simp [ho, Op.operands]) hx).is_eq
  subst hi hz
  exact ⟨_, by simp [execOp, ho, h1, run_convert_int w src dst k n hs hd], .cell _⟩
end Go.Proofs.YtagoikglbifhmaaGreatDoor
namespace Go.Proofs.YtagoikglbifhmaaGreatDoor
open Go.RowKit
theorem flat_get {α : Type} {f : α → List Dat} {k : Nat} (hk : ∀ a, (f a).length = k) {qs : List α} {i r : Nat} {a : α} (ha : qs[i]? = some a) (hr : r < k) : (qs.flatMap f)[i * k + r]? = (f a)[r]? := by
  have h := flat_part hk qs i a ha
  rw [← h, List.getElem?_take, if_pos hr, List.getElem?_drop]
def Old (w : World) : Nat → Prop := fun g => g < w.heap.size
section
variable {H : Type} {enc : TypeId × Value → H} {P : Program} {w : World} {base : Nat} {spare : Nat → Bool} {held : Bool} {fuel : Nat} {t : TypeId} {cs : List Value} {x : DataW H × List MemPlace}
theorem open_row {e : TypeId} (ht : P.underlying t = some (.slice e)) {k : Nat} (hk0 : 0 < k) (hke : P.cellsOf e = k) {α : Type} [Inhabited α] {f : α → List Dat} (hk : ∀ a, (f a).length = k) {F : α → Prop}
    (elem : ∀ n, n < fuel → ∀ cs x, DataW.trod enc P w base spare held n e cs = some x → ∃ a, Fits w (Old w) (f a) cs ∧ F a) (h : DataW.trod enc P w base spare held fuel t cs = some x) :
    ∃ p, ∃ qs : List α, ∃ c, cs = [.slice p qs.length c] ∧ Lies w (Old w) (.row k qs.length (qs.flatMap f)) (.slice p qs.length c) ∧ (∀ a ∈ qs, F a) ∧ qs.length ≤ c ∧ c ≤ maxLen := by
  rcases DataW.trod_slice ht h with ⟨rfl, _⟩ | ⟨ad, len, cap, elems, rest, n, rfl, rfl, _, hb, hl, hm, hlen, hel, _, _⟩
  · exact ⟨none, [], 0, rfl, .none _ _ _, by simp, by simp, by simp⟩
  · rw [hke] at hel
    have hone : ∀ i, i < len → ∃ y : α × List Value, Fits w (Old w) (f y.1) y.2 ∧ F y.1 ∧ ∀ j, j < k → w.cell? (ad.add (i * k + j)) = y.2[j]? := fun i hi => by
      have key := hel i hi
      rw [List.getElem?_eq_getElem (by omega)] at key
      obtain ⟨cs', h1, h2⟩ := Option.bind_eq_some_iff.1 key
      obtain ⟨a, hF, hA⟩ := elem n (by omega) cs' _ h2
      obtain ⟨_, _, hat⟩ := World.cells?_some h1
      exact ⟨(a, cs'), hF, hA, fun j hj => by rw [← Go.Deep.add_add]; exact hat j hj⟩
    obtain ⟨Y, hY⟩ := Go.Deep.choose_lt (α := α × List Value) (p := fun i y => Fits w (Old w) (f y.1) y.2 ∧ F y.1 ∧ ∀ j, j < k → w.cell? (ad.add (i * k + j)) = y.2[j]?) hone
    have hlen' : ((List.range len).map fun i => (Y i).1).length = len := by simp
    have hget : ∀ i, i < len → ((List.range len).map fun i => (Y i).1)[i]? = some (Y i).1 := fun i hi => by rw [List.getElem?_map, List.getElem?_range hi]; rfl
    refine ⟨some ad, (List.range len).map fun i => (Y i).1, cap, by rw [hlen'], ?_, fun a ha => ?_, by omega, hm⟩
    · rw [hlen']
      rcases Nat.eq_zero_or_pos len with h0 | h0
      · subst h0
        exact .none _ _ _
      obtain ⟨b, o, s⟩ := ad
      have hcell : ∀ i, i < len → ∀ j, j < k → ∃ v, (Y i).2[j]? = some v := fun i hi j hj => by
        have hl' := (hY i hi).1.1
        rw [hk] at hl'
        exact ⟨_, List.getElem?_eq_getElem (by omega)⟩
      obtain rfl : s = none := by
        obtain ⟨v, hv⟩ := hcell 0 h0 0 hk0
        have := (hY 0 h0).2.2 0 hk0
        rw [hv] at this
        simpa [Addr.add] using World.cell?_spot this
      have hb' : b < w.heap.size := by
        obtain ⟨v, hv⟩ := hcell 0 h0 0 hk0
        have := (hY 0 h0).2.2 0 hk0
        rw [hv] at this
        have := World.block_lt_of_cell? _ _ this
        simpa [Addr.add_lit] using this
      have hfl : ((((List.range len).map fun i => (Y i).1)).flatMap f).length = len * k := by rw [flat_len hk, hlen']
      refine .row k len b o cap _ (fun j => ((Y (j / k)).2[j % k]?).getD default) h0 (by omega) hfl hb' (fun j hj => ?_) fun j d hd => ?_
      · rw [hfl] at hj
        have hi : j / k < len := Nat.div_lt_of_lt_mul (by rw [Nat.mul_comm]; exact hj)
        have hr : j % k < k := Nat.mod_lt _ hk0
        obtain ⟨v, hv⟩ := hcell _ hi _ hr
        have := (hY _ hi).2.2 _ hr
        rw [Addr.add_lit, Nat.div_add_mod' j k] at this
        rw [this, hv]
        rfl
      · have hj : j < len * k := by rw [← hfl]; exact (List.getElem?_eq_some_iff.1 hd).1
        have hi : j / k < len := Nat.div_lt_of_lt_mul (by rw [Nat.mul_comm]; exact hj)
        have hr : j % k < k := Nat.mod_lt _ hk0
        obtain ⟨v, hv⟩ := hcell _ hi _ hr
        rw [← Nat.div_add_mod' j k, flat_get hk (hget _ hi) hr] at hd
        show Lies w (Old w) d (((Y (j / k)).2[j % k]?).getD default)
        rw [hv]
        exact (hY _ hi).1.2 _ d v hd hv
    · obtain ⟨i, hi, rfl⟩ := List.mem_map.1 ha
      exact (hY i (by simpa using hi)).2.1
end
end Go.Proofs.YtagoikglbifhmaaGreatDoor
namespace Go.Proofs.YtagoikglbifhmaaGreatDoor
open Go.RowKit
mutual
def Vl.dats : Vl → List Dat
  | .mk k n t fs r ls ps => [.cell (.int .i64 k), .cell (.int .u64 (n : Int)), .cell (.string (str t)), .row 8 fs.length (fdats fs), .cell (.string (str r)), .row 7 ls.length (ldats ls), .row 14 ps.length (pdats ps)]
def fdats : List (Int × Vl) → List Dat
  | [] => []
  | (n, x) :: fs => (.cell (.int .i64 n) :: x.dats) ++ fdats fs
def ldats : List Vl → List Dat
  | [] => []
  | x :: ls => x.dats ++ ldats ls
def pdats : List (Vl × Vl) → List Dat
  | [] => []
  | (k, x) :: ps => (k.dats ++ x.dats) ++ pdats ps
end
def fieldDats (f : Int × Vl) : List Dat := .cell (.int .i64 f.1) :: f.2.dats
def pairDats (p : Vl × Vl) : List Dat := p.1.dats ++ p.2.dats
theorem fdats_eq : ∀ fs : List (Int × Vl), fdats fs = fs.flatMap fieldDats
  | [] => by simp [fdats]
  | (n, x) :: fs => by rw [fdats, fdats_eq fs, List.flatMap_cons]; rfl
theorem ldats_eq : ∀ ls : List Vl, ldats ls = ls.flatMap Vl.dats
  | [] => by simp [ldats]
  | x :: ls => by rw [ldats, ldats_eq ls, List.flatMap_cons]
theorem pdats_eq : ∀ ps : List (Vl × Vl), pdats ps = ps.flatMap pairDats
  | [] => by simp [pdats]
  | (k, x) :: ps => by rw [pdats, pdats_eq ps, List.flatMap_cons]; rfl
theorem Vl.dats_eq (v : Vl) : v.dats = [.cell (.int .i64 v.kind), .cell (.int .u64 (v.num : Int)), .cell (.string (str v.text)), .row 8 v.fields.length (v.fields.flatMap fieldDats), .cell (.string (str v.rest)), .row 7 v.list.length (v.list.flatMap Vl.dats), .row 14 v.pairs.length (v.pairs.flatMap pairDats)] := by
  cases v
  rw [Vl.dats, fdats_eq, ldats_eq, pdats_eq]
  rfl
theorem Vl.dats_len (v : Vl) : v.dats.length = 7 := by rw [v.dats_eq]; rfl
theorem fieldDats_len (f : Int × Vl) : (fieldDats f).length = 8 := by unfold fieldDats; rw [List.length_cons, Vl.dats_len]
theorem pairDats_len (p : Vl × Vl) : (pairDats p).length = 14 := by unfold pairDats; rw [List.length_append, Vl.dats_len, Vl.dats_len]
def vcells (v : Vl) (f l p : Value) : List Value := [.int .i64 v.kind, .int .u64 (v.num : Int), .string (str v.text), f, .string (str v.rest), l, p]
structure Vin (w : World) (D : Nat → Prop) (v : Vl) (pf : Option Addr) (cf : Nat) (pl : Option Addr) (cl : Nat) (pp : Option Addr) (cp : Nat) : Prop where
  fields : RowD w D 8 pf fieldDats v.fields
  list : RowD w D 7 pl Vl.dats v.list
  pairs : RowD w D 14 pp pairDats v.pairs
theorem Fits.seven {w : World} {D : Nat → Prop} {a b c d e f g : Dat} {xs : List Value} (h : Fits w D [a, b, c, d, e, f, g] xs) :
    ∃ x0 x1 x2 x3 x4 x5 x6, xs = [x0, x1, x2, x3, x4, x5, x6] ∧ Lies w D a x0 ∧ Lies w D b x1 ∧ Lies w D c x2 ∧ Lies w D d x3 ∧ Lies w D e x4 ∧ Lies w D f x5 ∧ Lies w D g x6 := by
  obtain ⟨x0, y0, rfl, h0, k0⟩ := Fits.head h
  obtain ⟨x1, y1, rfl, h1, k1⟩ := Fits.head k0
  obtain ⟨x2, y2, rfl, h2, k2⟩ := Fits.head k1
  obtain ⟨x3, y3, rfl, h3, k3⟩ := Fits.head k2
  obtain ⟨x4, y4, rfl, h4, k4⟩ := Fits.head k3
  obtain ⟨x5, y5, rfl, h5, k5⟩ := Fits.head k4
  obtain ⟨x6, y6, rfl, h6, k6⟩ := Fits.head k5
  obtain rfl : y6 = [] := List.eq_nil_of_length_eq_zero k6.1.symm
  exact ⟨x0, x1, x2, x3, x4, x5, x6, rfl, h0, h1, h2, h3, h4, h5, h6⟩
theorem Vl.lies {w : World} {D : Nat → Prop} {v : Vl} {f l p : Value} (h : Fits w D v.dats (vcells v f l p)) : Lies w D (.row 8 v.fields.length (v.fields.flatMap fieldDats)) f ∧ Lies w D (.row 7 v.list.length (v.list.flatMap Vl.dats)) l ∧ Lies w D (.row 14 v.pairs.length (v.pairs.flatMap pairDats)) p := by
  rw [v.dats_eq] at h
  obtain ⟨x0, x1, x2, x3, x4, x5, x6, e, h0, h1, h2, h3, h4, h5, h6⟩ := Fits.seven h
  simp only [vcells, List.cons.injEq, and_true] at e
  obtain ⟨_, _, _, rfl, _, rfl, rfl⟩ := e
  exact ⟨h3, h5, h6⟩
theorem Vl.shut {w : World} {D : Nat → Prop} {v : Vl} {f l p : Value} (hf : Lies w D (.row 8 v.fields.length (v.fields.flatMap fieldDats)) f) (hl : Lies w D (.row 7 v.list.length (v.list.flatMap Vl.dats)) l) (hp : Lies w D (.row 14 v.pairs.length (v.pairs.flatMap pairDats)) p) : Fits w D v.dats (vcells v f l p) := by
  rw [v.dats_eq]
  exact .cons (.cell _) (.cons (.cell _) (.cons (.cell _) (.cons hf (.cons (.cell _) (.cons hl (.cons hp (.nil _ _)))))))
theorem Vin.stay {w w' : World} {D : Nat → Prop} {v : Vl} {pf : Option Addr} {cf : Nat} {pl : Option Addr} {cl : Nat} {pp : Option Addr} {cp : Nat} (h : Vin w D v pf cf pl cl pp cp) (hk : Keeps D w w') : Vin w' D v pf cf pl cl pp cp := ⟨h.fields.stay hk, h.list.stay hk, h.pairs.stay hk⟩
theorem Fits.split {w : World} {D : Nat → Prop} {ds es : List Dat} {xs : List Value} (h : Fits w D (ds ++ es) xs) : ∃ ys zs, xs = ys ++ zs ∧ Fits w D ds ys ∧ Fits w D es zs := by
  have hl := h.1
  rw [List.length_append] at hl
  refine ⟨xs.take ds.length, xs.drop ds.length, (List.take_append_drop _ _).symm, ?_, ?_⟩
  · have := h.part 0 ds.length
    simpa using this
  · have := h.part ds.length es.length
    rw [List.drop_left, List.take_length] at this
    rwa [List.take_of_length_le (by rw [List.length_drop]; omega)] at this
inductive Vl.Fine : Vl → Prop where
  | mk (v : Vl) : -9223372036854775808 ≤ v.kind → v.kind < 9223372036854775808 → v.num < 18446744073709551616 → v.text.length ≤ maxLen → v.rest.length ≤ maxLen → v.fields.length ≤ maxLen → v.list.length ≤ maxLen → v.pairs.length ≤ maxLen →
    (∀ f ∈ v.fields, -9223372036854775808 ≤ f.1 ∧ f.1 < 9223372036854775808) → (∀ f ∈ v.fields, Fine f.2) → (∀ x ∈ v.list, Fine x) → (∀ p ∈ v.pairs, Fine p.1) → (∀ p ∈ v.pairs, Fine p.2) → Fine v
theorem Vl.Fine.bounds {v : Vl} (h : v.Fine) : v.num < 18446744073709551616 ∧ v.text.length ≤ maxLen ∧ v.rest.length ≤ maxLen ∧ v.fields.length ≤ maxLen ∧ v.list.length ≤ maxLen ∧ v.pairs.length ≤ maxLen ∧ -9223372036854775808 ≤ v.kind ∧ v.kind < 9223372036854775808 := by
  cases h
  exact ⟨‹_›, ‹_›, ‹_›, ‹_›, ‹_›, ‹_›, ‹_›, ‹_›⟩
theorem Vl.Fine.field {v : Vl} (h : v.Fine) {f : Int × Vl} (hf : f ∈ v.fields) : (-9223372036854775808 ≤ f.1 ∧ f.1 < 9223372036854775808) ∧ f.2.Fine := by
  cases h with
  | mk v a b c d e f g h i j k l m => exact ⟨i _ hf, j _ hf⟩
theorem Vl.Fine.elem {v : Vl} (h : v.Fine) {x : Vl} (hx : x ∈ v.list) : x.Fine := by
  cases h with
  | mk v a b c d e f g h i j k l m => exact k _ hx
theorem Vl.Fine.pair {v : Vl} (h : v.Fine) {p : Vl × Vl} (hp : p ∈ v.pairs) : p.1.Fine ∧ p.2.Fine := by
  cases h with
  | mk v a b c d e f g h i j k l m => exact ⟨l _ hp, m _ hp⟩
end Go.Proofs.YtagoikglbifhmaaGreatDoor
namespace Go.Proofs.YtagoikglbifhmaaGreatDoor
open Go
def gstep (g : Vl → Int → Int) (l : Int) (x : Vl) : Int := if 0 ≤ l then g x l else l
def gkids (v : Vl) : List Vl := v.fields.map (·.2) ++ (v.list ++ v.pairs.flatMap fun p => [p.1, p.2])
def vgreat : Nat → Vl → Int → Int
  | 0, _, _ => -1
  | d + 1, v, left => if 400 < v.text.length ∨ 400 < v.rest.length then -1 else (gkids v).foldl (gstep (vgreat d)) (left - 1)
theorem gfold_bd (g : Vl → Int → Int) (hg : ∀ x l, 0 ≤ l → -1 ≤ g x l ∧ g x l ≤ l - 1) : ∀ (xs : List Vl) (l : Int), -1 ≤ l → -1 ≤ xs.foldl (gstep g) l ∧ xs.foldl (gstep g) l ≤ l
  | [], l, h => ⟨h, Int.le_refl _⟩
  | x :: xs, l, h => by
    have h1 : -1 ≤ gstep g l x ∧ gstep g l x ≤ l := by
      unfold gstep
      split
      · rename_i h0
        have := hg x l h0
        omega
      · exact ⟨h, Int.le_refl _⟩
    have := gfold_bd g hg xs _ h1.1
    rw [List.foldl_cons]
    omega
theorem vgreat_bd : ∀ (d : Nat) (v : Vl) (left : Int), 0 ≤ left → -1 ≤ vgreat d v left ∧ vgreat d v left ≤ left - 1
  | 0, _, left, h => by unfold vgreat; omega
  | d + 1, v, left, h => by
    unfold vgreat
    split
    · omega
    · exact gfold_bd _ (fun x l hl => vgreat_bd d x l hl) _ _ (by omega)
inductive Small : Nat → Vl → Prop where
  | mk (d : Nat) (v : Vl) : v.text.length ≤ 400 → v.rest.length ≤ 400 → (∀ x ∈ gkids v, Small d x) → Small (d + 1) v
theorem gnodes (v : Vl) : vnodes v = 1 + lnodes (gkids v) := by
  have h : ∀ a b, lnodes (a ++ b) = lnodes a + lnodes b := fun a b => by
    induction a with
    | nil => simp [lnodes]
    | cons x a ih => rw [List.cons_append, lnodes, lnodes, ih]; omega
  have hf : ∀ fs : List (Int × Vl), lnodes (fs.map (·.2)) = fnodes fs := fun fs => by
    induction fs with
    | nil => simp [lnodes, fnodes]
    | cons f fs ih => obtain ⟨n, x⟩ := f; rw [List.map_cons, lnodes, fnodes, ih]
  have hp : ∀ ps : List (Vl × Vl), lnodes (ps.flatMap fun p => [p.1, p.2]) = pnodes ps := fun ps => by
    induction ps with
    | nil => simp [lnodes, pnodes]
    | cons p ps ih => obtain ⟨k, x⟩ := p; rw [List.flatMap_cons, h, ih, lnodes, lnodes, lnodes, pnodes]; dsimp only; omega
  unfold gkids
  rw [h, h, hf, hp, vnodes_eq]
  omega
theorem gfold_ok (g : Vl → Int → Int) (d : Nat) (hb : ∀ x l, 0 ≤ l → -1 ≤ g x l ∧ g x l ≤ l - 1) (hg : ∀ x l, 0 ≤ l → 0 ≤ g x l → (vnodes x : Int) ≤ l - g x l ∧ Small d x) : ∀ (xs : List Vl) (l : Int), -1 ≤ l → 0 ≤ xs.foldl (gstep g) l → (lnodes xs : Int) ≤ l - xs.foldl (gstep g) l ∧ ∀ x ∈ xs, Small d x
  | [], l, _, h => by simp [lnodes]
  | x :: xs, l, hl, h => by
    rw [List.foldl_cons] at h ⊢
    have h1 : -1 ≤ gstep g l x := by
      unfold gstep
      split
      · rename_i h0; exact (hb x l h0).1
      · exact hl
    have hle := (gfold_bd g hb xs _ h1).2
    obtain ⟨h2, h3⟩ := gfold_ok g d hb hg xs _ h1 h
    have h0 : 0 ≤ l := by
      rcases Int.lt_or_le l 0 with hn | hn
      · have : gstep g l x = l := if_neg (by omega)
        omega
      · exact hn
    have e : gstep g l x = g x l := if_pos h0
    rw [e] at h2 h hle ⊢
    obtain ⟨h4, h5⟩ := hg x l h0 (by omega)
    refine ⟨?_, fun y hy => ?_⟩
    · rw [lnodes]
      omega
    · rcases List.mem_cons.1 hy with h | h
      · rw [h]; exact h5
      · exact h3 y h
theorem vgreat_ok : ∀ (d : Nat) (v : Vl) (left : Int), 0 ≤ left → 0 ≤ vgreat d v left → (vnodes v : Int) ≤ left - vgreat d v left ∧ Small d v
  | 0, _, left, _, h => by unfold vgreat at h; omega
  | d + 1, v, left, hl, h => by
    unfold vgreat at h ⊢
    split at h
    · omega
    · rename_i ht
      rw [if_neg ht]
      obtain ⟨h1, h2⟩ := gfold_ok (vgreat d) d (fun x l hl => vgreat_bd d x l hl) (fun x l hl h => vgreat_ok d x l hl h) (gkids v) (left - 1) (by omega) h
      rw [gnodes]
      exact ⟨by omega, .mk d v (by omega) (by omega) h2⟩
theorem fold_take {g : Int → Vl → Int} {xs : List Vl} {l : Int} {k : Nat} {x : Vl} (h : xs[k]? = some x) : (xs.take (k + 1)).foldl g l = g ((xs.take k).foldl g l) x := by
  have hk := (List.getElem?_eq_some_iff.1 h).1
  rw [List.take_add_one, h, List.foldl_append]
  rfl
def gpairs (ps : List (Vl × Vl)) : List Vl := ps.flatMap fun p => [p.1, p.2]
theorem gpairs_take {g : Int → Vl → Int} {ps : List (Vl × Vl)} {l : Int} {k : Nat} {p : Vl × Vl} (h : ps[k]? = some p) : (gpairs (ps.take (k + 1))).foldl g l = g (g ((gpairs (ps.take k)).foldl g l) p.1) p.2 := by
  unfold gpairs
  rw [List.take_add_one, h, Option.toList_some, List.flatMap_append, List.foldl_append]
  rfl
def rkids (v : Vl) : List Vl := v.list ++ v.fields.map (·.2) ++ gpairs v.pairs
theorem Small.parts {d : Nat} {v : Vl} (h : Small (d + 1) v) : v.text.length ≤ 400 ∧ v.rest.length ≤ 400 ∧ ∀ x ∈ gkids v, Small d x := by
  cases h
  exact ⟨‹_›, ‹_›, ‹_›⟩
end Go.Proofs.YtagoikglbifhmaaGreatDoor
namespace Go.Proofs.YtagoikglbifhmaaGreatDoor
open Go.RowKit
def vd (v : Vl) : List Dat := [.cell (.int .i64 v.kind), .cell (.int .u64 (v.num : Int)), .cell (.string (str v.text)), .row 8 v.fields.length (v.fields.flatMap fieldDats), .cell (.string (str v.rest)), .row 7 v.list.length (v.list.flatMap Vl.dats), .row 14 v.pairs.length (v.pairs.flatMap pairDats)]
theorem dats_vd (v : Vl) : v.dats = vd v := v.dats_eq
theorem fieldDats_vd (f : Int × Vl) : fieldDats f = .cell (.int .i64 f.1) :: vd f.2 := by unfold fieldDats; rw [dats_vd]
theorem pairDats_vd (p : Vl × Vl) : pairDats p = vd p.1 ++ vd p.2 := by unfold pairDats; rw [dats_vd, dats_vd]
abbrev iP (z : Int) : Part := .one (.cell (.int .i64 z))
abbrev uP (n : Nat) : Part := .one (.cell (.int .u64 (n : Int)))
abbrev sP (l : List UInt8) : Part := .one (.cell (.string (str l)))
abbrev tP (b : Bool) : Part := .one (.cell (.bool b))
theorem ncmp_lt {a b : Nat} (h : a < b) : ncmp a b = -1 := if_pos h
theorem ncmp_gt {a b : Nat} (h : b < a) : ncmp a b = 1 := (if_neg (by omega)).trans (if_pos h)
theorem ncmp_eq {a b : Nat} (h : a = b) : ncmp a b = 0 := (if_neg (by omega)).trans (if_neg (by omega))
theorem icmp_lt {a b : Int} (h : a < b) : icmp a b = -1 := if_pos h
theorem icmp_gt {a b : Int} (h : b < a) : icmp a b = 1 := (if_neg (by omega)).trans (if_pos h)
theorem icmp_eq {a b : Int} (h : a = b) : icmp a b = 0 := (if_neg (by omega)).trans (if_neg (by omega))
theorem lex_ne {x y : Int} (h : x ≠ 0) : lex x y = x := if_pos h
theorem lex_eq {x y : Int} (h : x = 0) : lex x y = y := if_neg (by omega)
end Go.Proofs.YtagoikglbifhmaaGreatDoor
namespace Go.Proofs.YtagoikglbifhmaaGreatDoor
open Go.RowKit
inductive Vl.Tx : Vl → Prop where
  | mk (v : Vl) : v.text.length ≤ 400 → v.rest.length ≤ 400 → (∀ x ∈ rkids v, Tx x) → Tx v
theorem Vl.Tx.texts {v : Vl} (h : v.Tx) : v.text.length ≤ 400 ∧ v.rest.length ≤ 400 := by
  cases h
  exact ⟨‹_›, ‹_›⟩
theorem kids_mem {v x : Vl} : x ∈ rkids v ↔ x ∈ gkids v := by
  unfold rkids gkids gpairs
  simp only [List.mem_append]
  constructor
  · rintro ((h | h) | h)
    · exact .inr (.inl h)
    · exact .inl h
    · exact .inr (.inr h)
  · rintro (h | h | h)
    · exact .inl (.inr h)
    · exact .inl (.inl h)
    · exact .inr h
theorem Small.tx : ∀ {d : Nat} {v : Vl}, Small d v → v.Tx
  | 0, _, h => by cases h
  | d + 1, v, h => by
    obtain ⟨h1, h2, h3⟩ := h.parts
    exact .mk v h1 h2 fun x hx => (h3 x (kids_mem.1 hx)).tx
end Go.Proofs.YtagoikglbifhmaaGreatDoor
namespace Go.Proofs.YtagoikglbifhmaaGreatDoor
open Go.RowKit
def Vl.zero : Vl := .mk 0 0 [] [] [] [] []
end Go.Proofs.YtagoikglbifhmaaGreatDoor
