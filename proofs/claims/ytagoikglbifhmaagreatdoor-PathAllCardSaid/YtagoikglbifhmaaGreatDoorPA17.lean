/- Part 17 of what the last text of this claim is proved by: walks over the program, and the math behind them. Conditions: as each theorem says. -/
import Derived.Test.YtagoikglbifhmaaGreatDoorPA16
import Derived.Laws.StructEq
import Derived.Laws.IdiomStrings
import Derived.Laws.Entries
namespace Go.Proofs.YtagoikglbifhmaaGreatDoor
open Go.RowKit
def EO (P : Program) (gls : List (Nat × List Value)) (f : FuncId) (ps : List Part) (ty k n : Nat) (cs : List Value) : Prop :=
  ∀ (w : World) (D : Nat → Prop) (vs : List Value), (∀ g, D g → g < w.heap.size) → GlOK gls w → PsFit w D ps vs → Calls P f vs.toArray w fun e w' => ∃ v, e = .returned v ∧ Below w.heap.size w w' ∧ w'.ownsRow w.heap.size ty k v n cs
def GivesO (w : World) (ty k n : Nat) (cs : List Value) (e : Ending) (w' : World) : Prop := ∃ v, e = .returned v ∧ Below w.heap.size w w' ∧ w'.ownsRow w.heap.size ty k v n cs
section
variable {P : Program}
theorem eo_enter {gls : List (Nat × List Value)} {f : FuncId} {fn : Func} {c : Code} {ps : List Part} {ty k m : Nat} {cs : List Value} (n : Nat) (hf : P.funcs[f]? = some fn) (hb : fn.body = some c) (hn : fn.ntmps = n) (hle : Nat.ble ps.length n = true)
    (h : ∀ (w : World) (D : Nat → Prop), E ⟨w, D, fun _ => False, n, gls, [], fun _ => 0⟩ (pslots 0 ps) [] [] (c.wp P (bodyPost P fn (GivesO w ty k m cs)))) : EO P gls f ps ty k m cs := fun w D vs hD hG hp => by
  refine calls_of_wp hf hb ?_
  have hl := hp.length
  have hle' := Nat.le_of_ble_eq_true hle
  refine h w D (fun _ => 0) (fun _ => undef) _ w ⟨by simp [hn]; omega, rfl, ⟨Bex.refl _ _, fun g hg => ⟨hD g hg, fun h => h⟩, fun _ h => h.elim, fun g cs hg => ⟨⟨(hG g cs hg).1, fun h => h⟩, (hG g cs hg).2⟩, fun b x hx => (by cases hx), fun r x hx => (by cases hx), fun r x g hx => (by cases hx), fun b hb => (by cases hb), fun b c x y hx => (by cases hx), fun b r x y g hx => (by cases hx), fun r q x y g hx => (by cases hx)⟩, fun t x hx => ?_⟩
  obtain ⟨p, h1, rfl, _⟩ := pslots_get hx
  obtain ⟨v, h2, h3⟩ := hp.get h1
  rw [Nat.sub_zero] at h2
  have hv : (vs.toArray ++ Array.replicate (fn.ntmps - vs.toArray.size) undef).getD t undef = v := by
    have hlt : t < vs.length := by
      rcases Nat.lt_or_ge t vs.length with h | h
      · exact h
      · rw [List.getElem?_eq_none h] at h2; cases h2
    have h4 : vs[t] = v := by
      rw [List.getElem?_eq_getElem hlt] at h2
      exact Option.some.inj h2
    simp [Array.getElem?_append, hlt, h4]
  show VR _ _ _ _ _ ((vs.toArray ++ Array.replicate (fn.ntmps - vs.toArray.size) undef).getD t undef)
  rw [hv]
  exact PFit.stay (D := D) (Keeps.refl _ _) (fun g hg => Or.inl hg) h3
variable {cx : Cx} {T : TL} {B : BL} {R : RL} {M : Nat → Nat} {V : Nat → Value} {o : Oper}
theorem e_return_own (hbor : cx.bor = fun _ => False) {fn : Func} {t r ty k n : Nat} {ds : List Dat} {cs : List Value} (hrs : fn.results = #[.tmp t]) (ht : lk t T = some (.own r)) (hr0 : lk r R = some ⟨ty, k, n, ds, false⟩) (hds : ds = cs.map .cell) (hty : Nat.blt ty 1000000 = true := by rfl) : E cx T B R (bodyPost P fn (GivesO cx.w0 ty k n cs) .ret) := fun M V a w hr => by
  have hbl : Below cx.w0.heap.size cx.w0 w := (show Bex (fun _ => False) cx.w0 w from hbor ▸ hr.heap.below).below
  have hv : a.tmps.getD t undef = V r := hr.tmp t _ ht
  have h1 : Gx w (Dc cx B R M V w) 0 ty k (V r) n ds := hr.heap.row r _ hr0
  obtain ⟨xs, ⟨hl, hown⟩, hfx⟩ : Gr w (Dc cx B R M V w) 0 ty k (V r) n ds := h1.row hty
  subst hds
  obtain rfl := hfx.cells
  refine ⟨hr.defers, V r, ?_, V r, rfl, hbl, hl, ?_⟩
  · have e : results fn a.tmps = (do let vs ← fn.results.mapM (rvRun a.tmps); pure (if h : vs.size = 1 then vs[0] else .tuple vs)) := by
      unfold results
      congr 1
    rw [e, hrs]
    simp [rvRun, hv]
  · rcases hown with h | ⟨g, cap, cur, h2, _, h3⟩
    · exact .inl h
    · refine .inr ⟨g, cap, cur, h2, ?_, h3⟩
      have := hr.heap.ro r _ g hr0 rfl (by rw [h2]; rfl)
      rcases this with h | h
      · exact h
      · rw [hbor] at h; exact h.elim
theorem kn_imp {x : Operand} {y z : IV} (h : Kn T x y) (hi : Imp y z) : Kn T x z := fun w D M V a hT => hi w D M V _ (h w D M V a hT)
theorem s_iaddr_refx {x i : Operand} {t : TypeId} {k : Nat} {ds es : List Dat} {kk : IntKind} {z : Int} (ho : o.op = .indexAddr t x i) (hx : Kn T x (.ref ds)) (hi : Kn T i (.is (.int kk z))) (hz : 0 ≤ z ∧ z < (P.arrayLen t : Int)) (ht : P.underlying t = some (.array (P.arrayLen t) (P.elem t))) (hs : sizeT P (P.elem t) = some k) (he : ds.drop (z.toNat * k) = es) :
    LStep P cx B R o T (.ref es) := he ▸ s_iaddr_ref ho hx hi hz ht hs
variable {α : Type} {kf : α → Value} [DecidableEq α]
end
def pickA {α : Type} (L : List Bool) : List Nat → List (Nat × Nat × α) → List (Nat × α)
  | _, [] => []
  | sn, (i, s, y) :: es => bif L.getD i false && !(sn.any fun c => Nat.beq c s) then (s, y) :: pickA L (s :: sn) es else pickA L sn es
section
variable {P : Program} {cx : Cx} {T0 : TL} {B0 : BL} {R0 : RL} {ops : Array Oper} {Q : Exit → Act → World → Prop} {deps : List (List Nat)} {es : List (Nat × Nat × IV)} {bs : List (Nat × Nat × Bx)} {rs : List (Nat × Nat × Rw)}
def AllStepsR (P : Program) (cx : Cx) (T0 : TL) (B0 : BL) (R0 : RL) (ops : Array Oper) (Q : Exit → Act → World → Prop) (es : List (Nat × Nat × IV)) (bs : List (Nat × Nat × Bx)) (rs : List (Nat × Nat × Rw)) : List (List Bool × Nat) → Prop
  | [] => True
  | (L, i) :: r => (∀ K, E cx (T0 ++ pickA (L.set i true) [] es) (pickA (L.set i true) [] bs ++ B0) (pickA (L.set i true) [] rs ++ R0) K → E cx (T0 ++ pickA L [] es) (pickA L [] bs ++ B0) (pickA L [] rs ++ R0) (wpOp P ops Q i K)) ∧ AllStepsR P cx T0 B0 R0 ops Q es bs rs r
theorem AllStepsR.get : ∀ {st : List (List Bool × Nat)} (_ : AllStepsR P cx T0 B0 R0 ops Q es bs rs st) {L : List Bool} {i : Nat}, (L, i) ∈ st → ∀ K, E cx (T0 ++ pickA (L.set i true) [] es) (pickA (L.set i true) [] bs ++ B0) (pickA (L.set i true) [] rs ++ R0) K → E cx (T0 ++ pickA L [] es) (pickA L [] bs ++ B0) (pickA L [] rs ++ R0) (wpOp P ops Q i K)
  | (L', j) :: r, h, L, i, hm => by
    rcases List.mem_cons.1 hm with e | hm
    · injection e with e1 e2
      subst e1 e2
      exact h.1
    · exact AllStepsR.get h.2 hm
  | [], _, _, _, hm => by cases hm
theorem e_statesR {L0 full : List Bool} {reach : List (List Bool)} {steps : List (List Bool × Nat)} (hd : depsOf ops = deps) (hB : dagB deps L0 full reach steps = true) (hs : AllStepsR P cx T0 B0 R0 ops Q es bs rs steps) (hend : E cx (T0 ++ pickA full [] es) (pickA full [] bs ++ B0) (pickA full [] rs ++ R0) (Q .normal)) :
    ∀ (m : Nat) (L : List Bool), L.count false = m → L ∈ reach → E cx (T0 ++ pickA L [] es) (pickA L [] bs ++ B0) (pickA L [] rs ++ R0) (wpAny P .any ops Q m L.toArray) := by
  simp only [dagB, Bool.and_eq_true] at hB
  have hall := List.all_eq_true.1 hB.2
  intro m
  induction m with
  | zero =>
    intro L hm hL
    have h := hall L hL
    cases hf : (L == full) with
    | true =>
      rw [hf] at h
      simp only [cond_true, Bool.and_eq_true] at h
      rw [beq_iff_eq] at hf
      subst hf
      exact e_any0 hd h.1 hend
    | false =>
      rw [hf] at h
      simp only [cond_false, Bool.and_eq_true] at h
      cases hr : readyC L 0 deps with
      | nil => rw [hr] at h; exact absurd h.1 (by decide)
      | cons i is =>
        have h2 := List.all_eq_true.1 h.2 i (by rw [hr]; exact List.mem_cons_self)
        simp only [Bool.and_eq_true, beq_iff_eq] at h2
        omega
  | succ m ih =>
    intro L hm hL
    have h := hall L hL
    cases hf : (L == full) with
    | true =>
      rw [hf] at h
      simp only [cond_true, Bool.and_eq_true, beq_iff_eq] at h
      omega
    | false =>
      rw [hf] at h
      simp only [cond_false, Bool.and_eq_true, Bool.not_eq_true'] at h
      refine e_any hd h.1 (AnyE.of fun i hi => ?_)
      have h2 := List.all_eq_true.1 h.2 i hi
      simp only [Bool.and_eq_true, beq_iff_eq, List.contains_iff_mem] at h2
      exact hs.get h2.1.1 _ (ih _ (by omega) h2.1.2)
theorem e_subR {T T' : TL} {B B' : BL} {R R' : RL} {K : Act → World → Prop} (hK : E cx T' B' R' K) (hT : SubT T T') (hB : SubB B B') (hR : SubR R R') : E cx T B R K := e_sub hT hB hR hK
theorem e_draw_sr {id : Nat} {l : List Oper} (n : Nat) (deps : List (List Nat)) (reach : List (List Bool)) (steps : List (List Bool × Nat)) (es : List (Nat × Nat × IV)) (bs : List (Nat × Nat × Bx)) (rs : List (Nat × Nat × Rw)) {T : TL} {B : BL} {R : RL} (T0 : TL) (B0 : BL) (R0 : RL) (hd : depsOf l.toArray = deps) (hn : l.toArray.size = n) (hm : P.follows .mixedOrders = true) (hB : dagB deps (List.replicate n false) (List.replicate n true) reach steps = true) (hc : (List.replicate n false).count false = n)
    (h0 : ∀ K, E cx (T0 ++ pickA (List.replicate n false) [] es) (pickA (List.replicate n false) [] bs ++ B0) (pickA (List.replicate n false) [] rs ++ R0) K → E cx T B R K) (hs : AllStepsR P cx T0 B0 R0 l.toArray Q es bs rs steps) (hend : E cx (T0 ++ pickA (List.replicate n true) [] es) (pickA (List.replicate n true) [] bs ++ B0) (pickA (List.replicate n true) [] rs ++ R0) (Q .normal)) : E cx T B R ((Code.region id l.toArray true).wp P Q) := by
  refine e_draw_any n _ deps hd hn hm rfl fun _ => h0 _ ?_
  refine e_statesR hd hB hs hend n _ hc ?_
  simp only [dagB, Bool.and_eq_true, List.contains_iff_mem] at hB
  exact hB.1
end
end Go.Proofs.YtagoikglbifhmaaGreatDoor
namespace Go.Proofs.YtagoikglbifhmaaGreatDoor
open Go.RowKit
inductive Alike3 (P : Program) (t : TypeId) : Value → Value → Prop where
  | int (k k' : IntKind) (a b : Int) (h : P.underlying t = some (.int k')) : Alike3 P t (.int k a) (.int k b)
  | str (a b : List UInt8) (h : P.underlying t = some .string) : Alike3 P t (.string (str a)) (.string (str b))
  | bool (a b : Bool) (h : P.underlying t = some .bool) : Alike3 P t (.bool a) (.bool b)
theorem Alike3.plain {P : Program} {t : TypeId} {a b : Value} (h : Alike3 P t a b) : (P.underlying t = some .string ∨ P.underlying t = some .bool) ∨ ∃ k, P.underlying t = some (.int k) := by
  cases h with
  | int k k' a b hu => exact .inr ⟨k', hu⟩
  | str a b hu => exact .inl (.inl hu)
  | bool a b hu => exact .inl (.inr hu)
section
variable {P : Program} {cx : Cx} {T : TL} {B : BL} {R : RL} {o : Oper}
end
end Go.Proofs.YtagoikglbifhmaaGreatDoor
namespace Go.Proofs.YtagoikglbifhmaaGreatDoor
open Go.RowKit
theorem psfit_cells {w : World} {D : Nat → Prop} : ∀ {vs us : List Value}, PsFit w D (vs.map fun v => .one (.cell v)) us → us = vs
  | [], [], _ => rfl
  | v :: vs, u :: us, h => by
    obtain rfl := Lies.cell_eq h.1
    rw [psfit_cells h.2]
  | [], _ :: _, h => h.elim
  | _ :: _, [], h => h.elim
theorem psfit_self (w : World) (D : Nat → Prop) : ∀ vs : List Value, PsFit w D (vs.map fun v => .one (.cell v)) vs
  | [] => trivial
  | v :: vs => ⟨.cell v, psfit_self w D vs⟩
theorem efx_cells {P : Program} {gls : List (Nat × List Value)} {f : FuncId} (vs : List Value) {Y : IV → Prop}
    (h : ∀ w, GlOK gls w → Calls P f vs.toArray w fun e w' => Below w.heap.size w w' ∧ ((∃ v, Y (.is v) ∧ e = .returned v) ∨ ∃ rs : List Value, Y (.tup (rs.map fun v => .one (.cell v))) ∧ e = .returned (.tuple rs.toArray))) : EFx P gls f (vs.map fun v => .one (.cell v)) Y := fun w D us hD hG hp => by
  obtain rfl := psfit_cells hp
  refine (h w hG).mono fun e w' ⟨hb, hr⟩ => ?_
  rcases hr with ⟨v, hy, he⟩ | ⟨rs, hy, he⟩
  · exact ⟨v, _, he, hy, hb, fun M V => .cell v⟩
  · exact ⟨_, _, he, hy, hb, fun M V => ⟨rs, rfl, psfit_self _ _ rs⟩⟩
theorem ef_cell {P : Program} {gls : List (Nat × List Value)} {f : FuncId} (vs : List Value) (r : Value)
    (h : ∀ w, GlOK gls w → Calls P f vs.toArray w fun e w' => e = .returned r ∧ Below w.heap.size w w') : EF P gls f (vs.map fun v => .one (.cell v)) (.is r) :=
  efx_cells vs fun w hG => (h w hG).mono fun e w' ⟨h1, h2⟩ => ⟨h2, .inl ⟨r, rfl, h1⟩⟩
section
variable {P : Program} {cx : Cx} {T : TL} {B : BL} {R : RL} {o : Oper}
theorem v_shl4 {t : TypeId} {m : Int} : BinV P .shl t (.int .i64 m) (.int .u64 4) (.int .i64 (IntKind.i64.wrap (m * 2 ^ 4))) := fun _ _ w => by
  simp only [eqGuard_shl, binOp_shl]
  rw [Sem.run_bind, Sem.run_pure, Result.andThen_ok, shift_shl .i64 .u64 m 4 (by decide) (by decide)]
  rfl
theorem v_shr4 {t : TypeId} {m : Int} : BinV P .shr t (.int .u8 m) (.int .u64 4) (.int .u8 (m / 16)) := fun _ _ w => by
  simp only [eqGuard_shr, binOp_shr]
  rw [Sem.run_bind, Sem.run_pure, Result.andThen_ok, shift_shr .u8 .u64 m 4 (by decide) (by decide)]
  rfl
theorem v_ork {t : TypeId} {k : IntKind} {m n : Int} : BinV P .or t (.int k m) (.int k n) (.int k (k.wrap ((BitVec.ofInt k.bits m ||| BitVec.ofInt k.bits n).toNat : Int))) := fun _ _ w => by
  simp only [eqGuard_or, binOp_or]
  rw [Sem.run_bind, Sem.run_pure, Result.andThen_ok]
  rfl
theorem v_andk {t : TypeId} {k : IntKind} {m n : Int} : BinV P .and t (.int k m) (.int k n) (.int k (k.wrap ((BitVec.ofInt k.bits m &&& BitVec.ofInt k.bits n).toNat : Int))) := fun _ _ w => by
  simp only [eqGuard_and, binOp_and]
  rw [Sem.run_bind, Sem.run_pure, Result.andThen_ok]
  rfl
theorem and15 : ∀ n : _root_.Fin 256, IntKind.u8.wrap ((BitVec.ofInt 8 (n.1 : Int) &&& BitVec.ofInt 8 15).toNat : Int) = ((n.1 % 16 : Nat) : Int) := by decide +kernel
theorem v_and15 {t : TypeId} {n : Nat} (h : n < 256) : BinV P .and t (.int .u8 (n : Int)) (.int .u8 15) (.int .u8 ((n % 16 : Nat) : Int)) := fun x y w => by
  have := v_andk (P := P) (t := t) (k := .u8) (m := (n : Int)) (n := 15) x y w
  rw [this]
  exact congrArg (fun z => Result.ok (Value.int .u8 z) w) (and15 ⟨n, h⟩)
theorem fits_cells_eq {w : World} {D : Nat → Prop} {cs xs : List Value} (h : Fits w D (cs.map .cell) xs) : xs = cs := by
  refine List.ext_getElem? fun j => ?_
  have hl : cs.length = xs.length := by simpa using h.1
  rcases Nat.lt_or_ge j cs.length with hj | hj
  · have h1 := h.2 j (.cell cs[j]) xs[j] (by rw [List.getElem?_map, List.getElem?_eq_getElem hj]; rfl) (List.getElem?_eq_getElem (by omega))
    rw [List.getElem?_eq_getElem hj, List.getElem?_eq_getElem (by omega), Lies.cell_eq h1]
  · rw [List.getElem?_eq_none hj, List.getElem?_eq_none (by omega)]
theorem s_ostr {x : Operand} {src dst e : TypeId} {r n : Nat} {ds : List Dat} {l : List UInt8} (ho : o.op = .convert src dst x) (hx : Kn T x (.own r)) (hr : lk r R = some ⟨e, 1, n, ds, false⟩) (hds : ds = l.map fun b => .cell (bv b)) (hs : P.underlying src = some (.slice e)) (he : P.underlying e = some (.int .u8)) (hd : P.underlying dst = some .string) (hty : Nat.blt e 1000000 = true := by rfl) :
    LStep P cx B R o T (.is (.string (str l))) := LStep.same fun M V w a hh hk => by
  have h1 : a.eval x = V r := hk x _ (by simp [ho, Op.operands]) hx
  have h2 : Gx w (Dc cx B R M V w) 0 e 1 (V r) n ds := hh.row r _ hr
  obtain ⟨xs, hown, hfit⟩ := h2.row hty
  rw [hds, show (l.map fun b => Dat.cell (bv b)) = (l.map bv).map Dat.cell by rw [List.map_map]; rfl] at hfit
  obtain rfl := fits_cells_eq hfit
  have hl : l.length = n := by simpa using hown.1
  refine ⟨.string (str l), ?_, .cell _⟩
  rcases hown.2 with ⟨hv, hn0⟩ | ⟨g, cap, cur, hv, _, _, _, _, _, _⟩
  · have hl0 : l = [] := List.length_eq_zero_iff.1 (by omega)
    subst hl0
    have h3 := run_convert_bytes_string (P := P) w src dst e none 0 0 hs he hd
    simp only [execOp, ho, h1, hv]
    rw [Sem.run_bind, h3]
    rfl
  · have hob : (V r).ownBlock = some g := by rw [hv]; rfl
    have h3 := run_convert_bytes_back (P := P) w src dst e ⟨g, 0, none⟩ cap l hs he hd fun j hj => hown.cells hob j _ (by rw [List.getElem?_map, List.getElem?_eq_getElem hj]; rfl)
    simp only [execOp, ho, h1, hv]
    rw [Sem.run_bind, ← hl, h3]
    rfl
theorem e_lit (r : Nat) {ops : Array Oper} {Q : Exit → Act → World → Prop} {l : List Oper} {d : Nat} {t e : TypeId} {len k : Nat} {parts : List (Nat × Operand)} (ps : List (Nat × Part)) {zs : List Value} {zd : List Dat} {cs : List Value} (hg : o.guard = none) (hd : o.dst = some d) (hn : Nat.blt d cx.n = true) (ho : o.op = .buildSlice t len parts.toArray) (hp : KnL T parts ps) (h1 : ps.all (·.2.isOne) = true) (ht : P.underlying t = some (.slice e)) (hs : sizeT P e = some k) (hz : zeroT P e = some zs) (hzd : ∀ w D, Fits w D zd (List.replicate len zs).flatten)
    (hzk : Nat.beq zs.length k = true) (hzl : Nat.blt 0 k = true) (hpos : Nat.blt 0 len = true) (hsm : Nat.ble (len * k) 16777216 = true) (hf : fillD (fun i => some (i * k, k)) zd ps = some (cs.map .cell))
    (hT : norT r T = true) (hB : norB r B = true) (hE : E cx ((d, .own r) :: T) B ((r, ⟨e, k, len, cs.map .cell, false⟩) :: R) (wpList P ops Q l)) (hty : Nat.blt e 1000000 = true := by rfl) : E cx T B R (wpList P ops Q (o :: l)) := fun M V a w hrel => by
  obtain rfl := Nat.eq_of_beq_eq_true hzk
  obtain ⟨hl, hgt⟩ := hp.get
  have hzl' : 0 < zs.length := by simpa using hzl
  have hpos' : 0 < len := by simpa using hpos
  have hsm' := Nat.le_of_ble_eq_true hsm
  cases hi : P.info? e with
  | none => simp [zeroT, hi] at hz
  | some it =>
    cases hzz : it.zero with
    | none => simp [zeroT, hi, hzz] at hz
    | some z =>
      have hzc : z.cells = zs.toArray := by
        have : z.cells.toList = zs := by simpa [zeroT, hi, hzz] using hz
        rw [← this]
      have hsz : it.size = zs.length := by simpa [sizeT, hi] using hs
      obtain ⟨out, ho1, ho2⟩ := fill_fit (w := w) (D := Dc cx B R M V w) (place := fun i => some (i * zs.length, zs.length)) (vs := parts.map fun x => (x.1, a.eval x.2)) (cells := (Array.range (len * zs.length)).map (zs.toArray[· % zs.toArray.size]!)) hf (by rw [zero_mod zs]; exact hzd _ _) (by simp [hl]) (fun j i p i' v hj hv => by
          rw [List.getElem?_map, Option.map_eq_some_iff] at hv
          obtain ⟨⟨i2, x⟩, hx1, hx2⟩ := hv
          obtain ⟨rfl, rfl⟩ : i2 = i' ∧ a.eval x = v := by simpa using hx2
          obtain ⟨e, hkx⟩ := hgt j i2 x i p hx1 hj
          have hpf : PFit _ _ p (a.eval x) := hkx w (Dc cx B R M V w) M V a fun t z' _ hz => hrel.tmp t z' hz
          refine ⟨e.symm, hpf, fun d hd => ?_⟩
          subst hd
          have := List.all_eq_true.1 h1 _ (List.mem_of_getElem? hj)
          exact Lies.one hpf this)
      have hrun := run_buildSlice (P := P) w t e len (parts.map fun x => (x.1, a.eval x.2)).toArray out it z ht hi hzz (by rw [hsz]; omega) (by rw [hsz]; exact Nat.ne_of_gt (Nat.mul_pos hpos' hzl')) (by rw [hsz, hzc]; simpa using ho1)
      have hb : Below w.heap.size w (w.alloc (.cells out e)) := (Below.refl _ _).alloc (Nat.le_refl _) _
      have hout : out.toList = cs := fits_cells_eq ho2
      have hlen : out.size = len * zs.length := by
        have := fillD_len hf
        have h2 := (hzd w (Dc cx B R M V w)).1
        have h3 : out.toList.length = cs.length := by rw [hout]
        rw [List.length_map] at this
        rw [Array.length_toList] at h3
        rw [h3, this, h2]
        simp
      have hmax : len ≤ maxLen := by
        have : len ≤ len * zs.length := Nat.le_mul_of_pos_right _ hzl'
        unfold maxLen
        omega
      have hown : (w.alloc (.cells out e)).ownsRow w.heap.size e zs.length (.slice (some ⟨w.heap.size, 0, none⟩) len len) len cs :=
        ⟨by rw [← hout, Array.length_toList, hlen], .inr ⟨w.heap.size, len, out, rfl, Nat.le_refl _, heap_alloc_new w _, Nat.le_refl _, hmax, hlen, by rw [← hout, List.take_of_length_le (by rw [Array.length_toList, hlen]; exact Nat.le_refl _)]⟩⟩
      obtain ⟨V', hVr, hr0⟩ := hrel.own_new hb hown r hT hB hty
      refine wpList_plain hg fun K hK => ?_
      have hex : (execOp a.eval o).run P w = .ok (.value (.slice (some ⟨w.heap.size, 0, none⟩) len len)) (w.alloc (.cells out e)) := by
        unfold execOp
        simp only [ho, List.map_toArray]
        rw [Sem.run_bind, hrun]
        rfl
      unfold Oper.wp
      rw [hex]
      simp only [Oper.upon, hd]
      refine hK _ _ ?_
      exact hE M V' _ _ (hr0.put (Below.refl _ _) (blt_lt hn) hVr.symm)
end
end Go.Proofs.YtagoikglbifhmaaGreatDoor
