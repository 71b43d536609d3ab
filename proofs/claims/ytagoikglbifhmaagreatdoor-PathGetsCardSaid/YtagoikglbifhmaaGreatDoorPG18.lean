/- Part 18 of what the last text of this claim is proved by: walks over the program, and the math behind them. Conditions: as each theorem says. -/
import Derived.Test.YtagoikglbifhmaaGreatDoorPG17
import Derived.Laws.StructEq
import Derived.Laws.IdiomStrings
import Derived.Laws.Entries
import Derived.Test.YtagoikglbifhmaaGreatDoorProg
namespace Go.Proofs.YtagoikglbifhmaaGreatDoor
open Go.RowKit
section
variable {P : Program}
variable {cx : Cx} {T : TL} {B : BL} {R : RL} {M : Nat → Nat} {V : Nat → Value} {o : Oper}
theorem kn_imp {x : Operand} {y z : IV} (h : Kn T x y) (hi : Imp y z) : Kn T x z := fun w D M V a hT => hi w D M V _ (h w D M V a hT)
theorem s_iaddr_refx {x i : Operand} {t : TypeId} {k : Nat} {ds es : List Dat} {kk : IntKind} {z : Int} (ho : o.op = .indexAddr t x i) (hx : Kn T x (.ref ds)) (hi : Kn T i (.is (.int kk z))) (hz : 0 ≤ z ∧ z < (P.arrayLen t : Int)) (ht : P.underlying t = some (.array (P.arrayLen t) (P.elem t))) (hs : sizeT P (P.elem t) = some k) (he : ds.drop (z.toNat * k) = es) :
    LStep P cx B R o T (.ref es) := he ▸ s_iaddr_ref ho hx hi hz ht hs
variable {α : Type} {kf : α → Value} [DecidableEq α]
end
def pickA {α : Type} (L : List Bool) : List Nat → List (Nat × Nat × α) → List (Nat × α)
  | _, [] => []
  | sn, (i, s, y) :: es => bif L.getD i false && !(sn.any fun c => Nat.beq c s) then (s, y) :: pickA L (s :: sn) es else pickA L sn es
section
variable {P : Program} {cx : Cx} {T0 : TL} {B0 : BL} {R0 : RL} {ops : Array Oper} {Q : Exit → Act → World → Prop} {deps : List (List Nat)} {es : List (Nat × Nat × IV)} {bs : List (Nat × Nat × Bx)} {rs : List (Nat × Nat × Rw)}
def AllStepsR (P : Program) (cx : Cx) (T0 : TL) (B0 : BL) (R0 : RL) (ops : Array Oper) (Q : Exit → Act → World → Prop) (es : List (Nat × Nat × IV)) (bs : List (Nat × Nat × Bx)) (rs : List (Nat × Nat × Rw)) : List (List Bool × Nat) → Prop
  | [] => True
  | (L, i) :: r => (∀ K, E cx (T0 ++ pickA (L.set i true) [] es) (pickA (L.set i true) [] bs ++ B0) (pickA (L.set i true) [] rs ++ R0) K → E cx (T0 ++ pickA L [] es) (pickA L [] bs ++ B0) (pickA L [] rs ++ R0) (wpOp P ops Q i K)) ∧ AllStepsR P cx T0 B0 R0 ops Q es bs rs r
theorem AllStepsR.get : ∀ {st : List (List Bool × Nat)} (_ : AllStepsR P cx T0 B0 R0 ops Q es bs rs st) {L : List Bool} {i : Nat}, (L, i) ∈ st → ∀ K, E cx (T0 ++ pickA (L.set i true) [] es) (pickA (L.set i true) [] bs ++ B0) (pickA (L.set i true) [] rs ++ R0) K → E cx (T0 ++ pickA L [] es) (pickA L [] bs ++ B0) (pickA L [] rs ++ R0) (wpOp P ops Q i K)
  | (L', j) :: r, h, L, i, hm => by
    rcases List.mem_cons.1 hm with e | hm
    · injection e with e1 e2
      subst e1 e2
      exact h.1
    · exact AllStepsR.get h.2 hm
  | [], _, _, _, hm => by cases hm
end
end Go.Proofs.YtagoikglbifhmaaGreatDoor
namespace Go.Proofs.YtagoikglbifhmaaGreatDoor
open Go.RowKit
inductive Alike3 (P : Program) (t : TypeId) : Value → Value → Prop where
  | int (k k' : IntKind) (a b : Int) (h : P.underlying t = some (.int k')) : Alike3 P t (.int k a) (.int k b)
  | str (a b : List UInt8) (h : P.underlying t = some .string) : Alike3 P t (.string (str a)) (.string (str b))
  | bool (a b : Bool) (h : P.underlying t = some .bool) : Alike3 P t (.bool a) (.bool b)
theorem Alike3.plain {P : Program} {t : TypeId} {a b : Value} (h : Alike3 P t a b) : (P.underlying t = some .string ∨ P.underlying t = some .bool) ∨ ∃ k, P.underlying t = some (.int k) := by
  cases h with
  | int k k' a b hu => exact .inr ⟨k', hu⟩
  | str a b hu => exact .inl (.inl hu)
  | bool a b hu => exact .inl (.inr hu)
section
variable {P : Program} {cx : Cx} {T : TL} {B : BL} {R : RL} {o : Oper}
end
end Go.Proofs.YtagoikglbifhmaaGreatDoor
namespace Go.Proofs.YtagoikglbifhmaaGreatDoor
open Go.RowKit
theorem psfit_cells {w : World} {D : Nat → Prop} : ∀ {vs us : List Value}, PsFit w D (vs.map fun v => .one (.cell v)) us → us = vs
  | [], [], _ => rfl
  | v :: vs, u :: us, h => by
    obtain rfl := Lies.cell_eq h.1
    rw [psfit_cells h.2]
  | [], _ :: _, h => h.elim
  | _ :: _, [], h => h.elim
theorem psfit_self (w : World) (D : Nat → Prop) : ∀ vs : List Value, PsFit w D (vs.map fun v => .one (.cell v)) vs
  | [] => trivial
  | v :: vs => ⟨.cell v, psfit_self w D vs⟩
theorem efx_cells {P : Program} {gls : List (Nat × List Value)} {f : FuncId} (vs : List Value) {Y : IV → Prop}
    (h : ∀ w, GlOK gls w → Calls P f vs.toArray w fun e w' => Below w.heap.size w w' ∧ ((∃ v, Y (.is v) ∧ e = .returned v) ∨ ∃ rs : List Value, Y (.tup (rs.map fun v => .one (.cell v))) ∧ e = .returned (.tuple rs.toArray))) : EFx P gls f (vs.map fun v => .one (.cell v)) Y := fun w D us hD hG hp => by
  obtain rfl := psfit_cells hp
  refine (h w hG).mono fun e w' ⟨hb, hr⟩ => ?_
  rcases hr with ⟨v, hy, he⟩ | ⟨rs, hy, he⟩
  · exact ⟨v, _, he, hy, hb, fun M V => .cell v⟩
  · exact ⟨_, _, he, hy, hb, fun M V => ⟨rs, rfl, psfit_self _ _ rs⟩⟩
theorem ef_cell {P : Program} {gls : List (Nat × List Value)} {f : FuncId} (vs : List Value) (r : Value)
    (h : ∀ w, GlOK gls w → Calls P f vs.toArray w fun e w' => e = .returned r ∧ Below w.heap.size w w') : EF P gls f (vs.map fun v => .one (.cell v)) (.is r) :=
  efx_cells vs fun w hG => (h w hG).mono fun e w' ⟨h1, h2⟩ => ⟨h2, .inl ⟨r, rfl, h1⟩⟩
section
variable {P : Program} {cx : Cx} {T : TL} {B : BL} {R : RL} {o : Oper}
theorem v_shl4 {t : TypeId} {m : Int} : BinV P .shl t (.int .i64 m) (.int .u64 4) (.int .i64 (IntKind.i64.wrap (m * 2 ^ 4))) := fun _ _ w => by
  simp only [eqGuard_shl, binOp_shl]
  rw [Sem.run_bind, Sem.run_pure, Result.andThen_ok, shift_shl .i64 .u64 m 4 (by decide) (by decide)]
  rfl
theorem v_shr4 {t : TypeId} {m : Int} : BinV P .shr t (.int .u8 m) (.int .u64 4) (.int .u8 (m / 16)) := fun _ _ w => by
  simp only [eqGuard_shr, binOp_shr]
  rw [Sem.run_bind, Sem.run_pure, Result.andThen_ok, shift_shr .u8 .u64 m 4 (by decide) (by decide)]
  rfl
theorem v_ork {t : TypeId} {k : IntKind} {m n : Int} : BinV P .or t (.int k m) (.int k n) (.int k (k.wrap ((BitVec.ofInt k.bits m ||| BitVec.ofInt k.bits n).toNat : Int))) := fun _ _ w => by
  simp only [eqGuard_or, binOp_or]
  rw [Sem.run_bind, Sem.run_pure, Result.andThen_ok]
  rfl
theorem v_andk {t : TypeId} {k : IntKind} {m n : Int} : BinV P .and t (.int k m) (.int k n) (.int k (k.wrap ((BitVec.ofInt k.bits m &&& BitVec.ofInt k.bits n).toNat : Int))) := fun _ _ w => by
  simp only [eqGuard_and, binOp_and]
  rw [Sem.run_bind, Sem.run_pure, Result.andThen_ok]
  rfl
theorem and15 : ∀ n : _root_.Fin 256, IntKind.u8.wrap ((BitVec.ofInt 8 (n.1 : Int) &&& BitVec.ofInt 8 15).toNat : Int) = ((n.1 % 16 : Nat) : Int) := by decide +kernel
theorem v_and15 {t : TypeId} {n : Nat} (h : n < 256) : BinV P .and t (.int .u8 (n : Int)) (.int .u8 15) (.int .u8 ((n % 16 : Nat) : Int)) := fun x y w => by
  have := v_andk (P := P) (t := t) (k := .u8) (m := (n : Int)) (n := 15) x y w
  rw [this]
  exact congrArg (fun z => Result.ok (Value.int .u8 z) w) (and15 ⟨n, h⟩)
theorem fits_cells_eq {w : World} {D : Nat → Prop} {cs xs : List Value} (h : Fits w D (cs.map .cell) xs) : xs = cs := by
  refine List.ext_getElem? fun j => ?_
  have hl : cs.length = xs.length := by simpa using h.1
  rcases Nat.lt_or_ge j cs.length with hj | hj
  · have h1 := h.2 j (.cell cs[j]) xs[j] (by rw [List.getElem?_map, List.getElem?_eq_getElem hj]; rfl) (List.getElem?_eq_getElem (by omega))
    rw [List.getElem?_eq_getElem hj, List.getElem?_eq_getElem (by omega), Lies.cell_eq h1]
  · rw [List.getElem?_eq_none hj, List.getElem?_eq_none (by omega)]
theorem s_ostr {x : Operand} {src dst e : TypeId} {r n : Nat} {ds : List Dat} {l : List UInt8} (ho : o.op = .convert src dst x) (hx : Kn T x (.own r)) (hr : lk r R = some ⟨e, 1, n, ds, false⟩) (hds : ds = l.map fun b => .cell (bv b)) (hs : P.underlying src = some (.slice e)) (he : P.underlying e = some (.int .u8)) (hd : P.underlying dst = some .string) (hty : Nat.blt e 1000000 = true := by rfl) :
    LStep P cx B R o T (.is (.string (str l))) := LStep.same fun M V w a hh hk => by
  have h1 : a.eval x = V r := hk x _ (by simp [ho, Op.operands]) hx
  have h2 : Gx w (Dc cx B R M V w) 0 e 1 (V r) n ds := hh.row r _ hr
  obtain ⟨xs, hown, hfit⟩ := h2.row hty
  rw [hds, show (l.map fun b => Dat.cell (bv b)) = (l.map bv).map Dat.cell by rw [List.map_map]; rfl] at hfit
  obtain rfl := fits_cells_eq hfit
  have hl : l.length = n := by simpa using hown.1
  refine ⟨.string (str l), ?_, .cell _⟩
  rcases hown.2 with ⟨hv, hn0⟩ | ⟨g, cap, cur, hv, _, _, _, _, _, _⟩
  · have hl0 : l = [] := List.length_eq_zero_iff.1 (by omega)
    subst hl0
    have h3 := run_convert_bytes_string (P := P) w src dst e none 0 0 hs he hd
    simp only [execOp, ho, h1, hv]
    rw [Sem.run_bind, h3]
    rfl
  · have hob : (V r).ownBlock = some g := by rw [hv]; rfl
    have h3 := run_convert_bytes_back (P := P) w src dst e ⟨g, 0, none⟩ cap l hs he hd fun j hj => hown.cells hob j _ (by rw [List.getElem?_map, List.getElem?_eq_getElem hj]; rfl)
    simp only [execOp, ho, h1, hv]
    rw [Sem.run_bind, ← hl, h3]
    rfl
theorem e_lit (r : Nat) {ops : Array Oper} {Q : Exit → Act → World → Prop} {l : List Oper} {d : Nat} {t e : TypeId} {len k : Nat} {parts : List (Nat × Operand)} (ps : List (Nat × Part)) {zs : List Value} {zd : List Dat} {cs : List Value} (hg : o.guard = none) (hd : o.dst = some d) (hn : Nat.blt d cx.n = true) (ho : o.op = .buildSlice t len parts.toArray) (hp : KnL T parts ps) (h1 : ps.all (·.2.isOne) = true) (ht : P.underlying t = some (.slice e)) (hs : sizeT P e = some k) (hz : zeroT P e = some zs) (hzd : ∀ w D, Fits w D zd (List.replicate len zs).flatten)
    (hzk : Nat.beq zs.length k = true) (hzl : Nat.blt 0 k = true) (hpos : Nat.blt 0 len = true) (hsm : Nat.ble (len * k) 16777216 = true) (hf : fillD (fun i => some (i * k, k)) zd ps = some (cs.map .cell))
    (hT : norT r T = true) (hB : norB r B = true) (hE : E cx ((d, .own r) :: T) B ((r, ⟨e, k, len, cs.map .cell, false⟩) :: R) (wpList P ops Q l)) (hty : Nat.blt e 1000000 = true := by rfl) : E cx T B R (wpList P ops Q (o :: l)) := fun M V a w hrel => by
  obtain rfl := Nat.eq_of_beq_eq_true hzk
  obtain ⟨hl, hgt⟩ := hp.get
  have hzl' : 0 < zs.length := by simpa using hzl
  have hpos' : 0 < len := by simpa using hpos
  have hsm' := Nat.le_of_ble_eq_true hsm
  cases hi : P.info? e with
  | none => simp [zeroT, hi] at hz
  | some it =>
    cases hzz : it.zero with
    | none => simp [zeroT, hi, hzz] at hz
    | some z =>
      have hzc : z.cells = zs.toArray := by
        have : z.cells.toList = zs := by simpa [zeroT, hi, hzz] using hz
        rw [← this]
      have hsz : it.size = zs.length := by simpa [sizeT, hi] using hs
      obtain ⟨out, ho1, ho2⟩ := fill_fit (w := w) (D := Dc cx B R M V w) (place := fun i => some (i * zs.length, zs.length)) (vs := parts.map fun x => (x.1, a.eval x.2)) (cells := (Array.range (len * zs.length)).map (zs.toArray[· % zs.toArray.size]!)) hf (by rw [zero_mod zs]; exact hzd _ _) (by simp [hl]) (fun j i p i' v hj hv => by
          rw [List.getElem?_map, Option.map_eq_some_iff] at hv
          obtain ⟨⟨i2, x⟩, hx1, hx2⟩ := hv
          obtain ⟨rfl, rfl⟩ : i2 = i' ∧ a.eval x = v := by simpa using hx2
          obtain ⟨e, hkx⟩ := hgt j i2 x i p hx1 hj
          have hpf : PFit _ _ p (a.eval x) := hkx w (Dc cx B R M V w) M V a fun t z' _ hz => hrel.tmp t z' hz
          refine ⟨e.symm, hpf, fun d hd => ?_⟩
          subst hd
          have := List.all_eq_true.1 h1 _ (List.mem_of_getElem? hj)
          exact Lies.one hpf this)
      have hrun := run_buildSlice (P := P) w t e len (parts.map fun x => (x.1, a.eval x.2)).toArray out it z ht hi hzz (by rw [hsz]; omega) (by rw [hsz]; exact Nat.ne_of_gt (Nat.mul_pos hpos' hzl')) (by rw [hsz, hzc]; simpa using ho1)
      have hb : Below w.heap.size w (w.alloc (.cells out e)) := (Below.refl _ _).alloc (Nat.le_refl _) _
      have hout : out.toList = cs := fits_cells_eq ho2
      have hlen : out.size = len * zs.length := by
        have := fillD_len hf
        have h2 := (hzd w (Dc cx B R M V w)).1
        have h3 : out.toList.length = cs.length := by rw [hout]
        rw [List.length_map] at this
        rw [Array.length_toList] at h3
        rw [h3, this, h2]
        simp
      have hmax : len ≤ maxLen := by
        have : len ≤ len * zs.length := Nat.le_mul_of_pos_right _ hzl'
        unfold maxLen
        omega
      have hown : (w.alloc (.cells out e)).ownsRow w.heap.size e zs.length (.slice (some ⟨w.heap.size, 0, none⟩) len len) len cs :=
        ⟨by rw [← hout, Array.length_toList, hlen], .inr ⟨w.heap.size, len, out, rfl, Nat.le_refl _, heap_alloc_new w _, Nat.le_refl _, hmax, hlen, by rw [← hout, List.take_of_length_le (by rw [Array.length_toList, hlen]; exact Nat.le_refl _)]⟩⟩
      obtain ⟨V', hVr, hr0⟩ := hrel.own_new hb hown r hT hB hty
      refine wpList_plain hg fun K hK => ?_
      have hex : (execOp a.eval o).run P w = .ok (.value (.slice (some ⟨w.heap.size, 0, none⟩) len len)) (w.alloc (.cells out e)) := by
        unfold execOp
        simp only [ho, List.map_toArray]
        rw [Sem.run_bind, hrun]
        rfl
      unfold Oper.wp
      rw [hex]
      simp only [Oper.upon, hd]
      refine hK _ _ ?_
      exact hE M V' _ _ (hr0.put (Below.refl _ _) (blt_lt hn) hVr.symm)
end
end Go.Proofs.YtagoikglbifhmaaGreatDoor
namespace Go.Proofs.YtagoikglbifhmaaGreatDoor
open Go.RowKit
def stDats (s : St) : List Dat := .cell (.int .i64 s.kind) :: .cell (.int .i64 s.num) :: .cell (.int .i64 s.to) :: s.key.dats
abbrev sd (s : St) : List Dat := .cell (.int .i64 s.kind) :: .cell (.int .i64 s.num) :: .cell (.int .i64 s.to) :: vd s.key
theorem stDats_sd (s : St) : stDats s = sd s := by unfold stDats; rw [dats_vd]
theorem stDats_len (s : St) : (stDats s).length = 10 := by rw [stDats_sd]; rfl
abbrev stD (p : List St) : Part := .one (.row 10 p.length (p.flatMap stDats))
set_option maxRecDepth 100000 in
theorem snum_ef (s : St) : EF Tryz.prog [] 65 [.many (sd s)] (.part (tP (snumR s))) := by
  refine ef_enter 22 Tryz.func65 rfl rfl rfl fun w D => ?_
  try refine e_fl ?_
  refine e_list ?_
  refine e_box 1 rfl rfl rfl rfl (kn rfl) rfl rfl rfl rfl ?_
  refine l_as ?_
  refine e_nil ?_
  try refine e_fl ?_
  refine e_plain (w_op rfl rfl rfl (s_faddr_box rfl (kn rfl) off_62_0) (w_op rfl rfl rfl (s_load1_box rfl (kn rfl) rfl rfl one_3) (w_op rfl rfl rfl (s_bin rfl (kn rfl) (kn rfl) v_eql) (w_mv rfl rfl rfl rfl rfl (Walk.gd _ rfl rfl rfl (fun h => s_faddr_box rfl (kn rfl) off_62_0) (Walk.gd _ rfl rfl rfl (fun h => s_load1_box rfl (kn_opt rfl h) rfl rfl one_3) (Walk.gd _ rfl rfl rfl (fun h => s_bin rfl (kn_opt rfl h) (kn rfl) v_eql) (w_op rfl rfl rfl (s_or rfl (kn rfl) (fun hb => kn_opt rfl hb)) .nil)))))))) ?_
  try refine e_fl ?_
  refine e_cond rfl (fun h => ?_) (fun h => ?_)
  · have e : snumR s = decide (s.num = 0) := if_pos (by simpa using h)
    try refine e_fl ?_
    refine e_plain (w_op rfl rfl rfl (s_faddr_box rfl (kn rfl) off_62_1) (w_op rfl rfl rfl (s_load1_box rfl (kn rfl) rfl rfl one_3) (w_op rfl rfl rfl (s_bin rfl (kn rfl) (kn rfl) v_eql) (w_as rfl rfl rfl rfl rfl .nil)))) ?_
    try refine e_fl ?_
    exact e_return rfl rfl (.tmp (kn rfl) (.nil)) (tP_eq e.symm) rfl
  · have e : snumR s = (decide (0 ≤ s.num) && decide (s.num ≤ 1073741824)) := if_neg (by simpa using h)
    try refine e_fl ?_
    refine e_plain (w_op rfl rfl rfl (s_faddr_box rfl (kn rfl) off_62_1) (w_op rfl rfl rfl (s_load1_box rfl (kn rfl) rfl rfl one_3) (w_op rfl rfl rfl (s_bin rfl (kn rfl) (kn rfl) v_geq) (w_mv rfl rfl rfl rfl rfl (Walk.gd _ rfl rfl rfl (fun h => s_faddr_box rfl (kn rfl) off_62_1) (Walk.gd _ rfl rfl rfl (fun h => s_load1_box rfl (kn_opt rfl h) rfl rfl one_3) (Walk.gd _ rfl rfl rfl (fun h => s_bin rfl (kn_opt rfl h) (kn rfl) v_leq) (w_op rfl rfl rfl (s_and rfl (kn rfl) (fun hb => kn_opt rfl hb)) (w_as rfl rfl rfl rfl rfl .nil))))))))) ?_
    try refine e_fl ?_
    exact e_return rfl rfl (.tmp (kn rfl) (.nil)) (tP_eq e.symm) rfl
set_option maxRecDepth 100000 in
theorem sto_ef (s : St) : EF Tryz.prog [] 66 [.many (sd s)] (.part (tP (stoR s))) := by
  refine ef_enter 19 Tryz.func66 rfl rfl rfl fun w D => ?_
  try refine e_fl ?_
  refine e_list ?_
  refine e_box 1 rfl rfl rfl rfl (kn rfl) rfl rfl rfl rfl ?_
  refine l_as ?_
  refine e_nil ?_
  try refine e_fl ?_
  refine e_plain (w_op rfl rfl rfl (s_faddr_box rfl (kn rfl) off_62_0) (w_op rfl rfl rfl (s_load1_box rfl (kn rfl) rfl rfl one_3) (w_op rfl rfl rfl (s_bin rfl (kn rfl) (kn rfl) v_eql) .nil))) ?_
  try refine e_fl ?_
  refine e_cond rfl (fun h => ?_) (fun h => ?_)
  · have e : stoR s = (decide (s.num ≤ s.to) && decide (s.to ≤ 1073741824)) := if_pos (by simpa using h)
    try refine e_fl ?_
    refine e_plain (w_op rfl rfl rfl (s_faddr_box rfl (kn rfl) off_62_2) (w_op rfl rfl rfl (s_load1_box rfl (kn rfl) rfl rfl one_3) (w_op rfl rfl rfl (s_faddr_box rfl (kn rfl) off_62_1) (w_op rfl rfl rfl (s_load1_box rfl (kn rfl) rfl rfl one_3) (w_op rfl rfl rfl (s_bin rfl (kn rfl) (kn rfl) v_geq) (w_mv rfl rfl rfl rfl rfl (Walk.gd _ rfl rfl rfl (fun h => s_faddr_box rfl (kn rfl) off_62_2) (Walk.gd _ rfl rfl rfl (fun h => s_load1_box rfl (kn_opt rfl h) rfl rfl one_3) (Walk.gd _ rfl rfl rfl (fun h => s_bin rfl (kn_opt rfl h) (kn rfl) v_leq) (w_op rfl rfl rfl (s_and rfl (kn rfl) (fun hb => kn_opt rfl hb)) (w_as rfl rfl rfl rfl rfl .nil))))))))))) ?_
    try refine e_fl ?_
    exact e_return rfl rfl (.tmp (kn rfl) (.nil)) (tP_eq e.symm) rfl
  · have e : stoR s = decide (s.to = 0) := if_neg (by simpa using h)
    try refine e_fl ?_
    refine e_plain (w_op rfl rfl rfl (s_faddr_box rfl (kn rfl) off_62_2) (w_op rfl rfl rfl (s_load1_box rfl (kn rfl) rfl rfl one_3) (w_op rfl rfl rfl (s_bin rfl (kn rfl) (kn rfl) v_eql) (w_as rfl rfl rfl rfl rfl .nil)))) ?_
    try refine e_fl ?_
    exact e_return rfl rfl (.tmp (kn rfl) (.nil)) (tP_eq e.symm) rfl
set_option maxRecDepth 100000 in
theorem skeyF_ef (s : St) : EF Tryz.prog [] 81 [.many (sd s)] (.part (tP (skeyF s))) := by
  refine ef_enter 27 Tryz.func81 rfl rfl rfl fun w D => ?_
  try refine e_fl ?_
  refine e_list ?_
  refine e_box 1 rfl rfl rfl rfl (kn rfl) rfl rfl rfl rfl ?_
  refine l_as ?_
  refine e_nil ?_
  try refine e_fl ?_
  refine e_plain (w_op rfl rfl rfl (s_faddr_box rfl (kn rfl) off_62_0) (w_op rfl rfl rfl (s_load1_box rfl (kn rfl) rfl rfl one_3) (w_op rfl rfl rfl (s_bin rfl (kn rfl) (kn rfl) v_neq) .nil))) ?_
  try refine e_fl ?_
  refine e_cond rfl (fun h => ?_) (fun h => ?_)
  · have e : skeyF s = decide (s.key.kind = 0) := if_neg (by simpa using h)
    try refine e_fl ?_
    refine e_plain (w_op rfl rfl rfl (s_faddr_box rfl (kn rfl) off_62_3) (w_op rfl rfl rfl (s_faddr_box rfl (kn rfl) off_27_0) (w_op rfl rfl rfl (s_load1_box rfl (kn rfl) rfl rfl one_3) (w_op rfl rfl rfl (s_bin rfl (kn rfl) (kn rfl) v_eql) (w_as rfl rfl rfl rfl rfl .nil))))) ?_
    try refine e_fl ?_
    exact e_return rfl rfl (.tmp (kn rfl) (.nil)) (tP_eq e.symm) rfl
  · have e : skeyF s = (decide (s.key.kind = 1) || (decide (s.key.kind = 2) && decide (s.key.text.length ≤ 4096))) := if_pos (by simpa using h)
    have e2 : decide (s.key.text.length ≤ 4096) = decide ((s.key.text.length : Int) ≤ 4096) := decide_eq_decide.2 (by omega)
    try refine e_fl ?_
    refine e_plain (w_op rfl rfl rfl (s_faddr_box rfl (kn rfl) off_62_3) (w_op rfl rfl rfl (s_faddr_box rfl (kn rfl) off_27_0) (w_op rfl rfl rfl (s_load1_box rfl (kn rfl) rfl rfl one_3) (w_op rfl rfl rfl (s_bin rfl (kn rfl) (kn rfl) v_eql) (w_mv rfl rfl rfl rfl rfl (Walk.gd _ rfl rfl rfl (fun h => s_faddr_box rfl (kn rfl) off_62_3) (Walk.gd _ rfl rfl rfl (fun h => s_faddr_box rfl (kn_opt rfl h) off_27_0) (Walk.gd _ rfl rfl rfl (fun h => s_load1_box rfl (kn_opt rfl h) rfl rfl one_3) (Walk.gd _ rfl rfl rfl (fun h => s_bin rfl (kn_opt rfl h) (kn rfl) v_eql) (Walk.gd _ rfl rfl rfl (fun h => s_move rfl (kn_opt rfl h)) (Walk.gd _ rfl rfl rfl (fun h => s_faddr_box rfl (kn rfl) off_62_3) (Walk.gd _ rfl rfl rfl (fun h => s_faddr_box rfl (kn_opt rfl h) off_27_2) (Walk.gd _ rfl rfl rfl (fun h => s_load1_box rfl (kn_opt rfl h) rfl rfl one_9) (Walk.gd _ rfl rfl rfl (fun h => s_slen rfl (kn_opt rfl h) str_9) (Walk.gd _ rfl rfl rfl (fun h => s_bin rfl (kn_opt rfl h) (kn rfl) v_leq) (Walk.gd _ rfl rfl rfl (fun h => s_and rfl (kn_opt rfl h) (fun hb => kn_opt rfl (gb h hb))) (w_op rfl rfl rfl (s_or rfl (kn rfl) (fun hb => kn_opt rfl hb)) (w_as rfl rfl rfl rfl rfl .nil)))))))))))))))))) ?_
    try refine e_fl ?_
    exact e_return rfl rfl (.tmp (kn rfl) (.nil)) (tP_eq (by rw [e, e2])) rfl
set_option maxRecDepth 100000 in
theorem skey_ef (s : St) (hs : Short s.key) : EF Tryz.prog [] 67 [.many (sd s)] (.part (tP (skeyF s && vright s.key))) := by
  refine ef_enter 10 Tryz.func67 rfl rfl rfl fun w D => ?_
  try refine e_fl ?_
  refine e_list ?_
  refine e_box 1 rfl rfl rfl rfl (kn rfl) rfl rfl rfl rfl ?_
  refine l_as ?_
  refine e_nil ?_
  try refine e_fl ?_
  refine e_plain (w_op rfl rfl rfl (s_loadn_box (ds := [_, _, _, _, _, _, _, _, _, _]) 10 rfl (kn rfl) rfl rfl agg_62 sz_62 rfl) (w_op rfl rfl rfl (s_call rfl (by kernel_rfl) (skeyF_ef s) ⟨(kn rfl), trivial⟩) (w_mv rfl rfl rfl rfl rfl (Walk.gd _ rfl rfl rfl (fun h => s_faddr_box rfl (kn rfl) off_62_3) (Walk.gd _ rfl rfl rfl (fun h => s_loadn_box (ds := [_, _, _, _, _, _, _]) 7 rfl (kn_opt rfl h) rfl rfl agg_27 sz_27 rfl) (Walk.gd _ rfl rfl rfl (fun h => s_call rfl (by kernel_rfl) (vright_ef s.key hs) ⟨(kn_opt rfl h), trivial⟩) (w_op rfl rfl rfl (s_and rfl (kn rfl) (fun hb => kn_opt rfl hb)) (w_as rfl rfl rfl rfl rfl .nil)))))))) ?_
  try refine e_fl ?_
  exact e_return rfl rfl (.tmp (kn rfl) (.nil)) (tP_eq rfl) rfl
theorem srt_wrong (s : St) : ((((decide (s.kind < 1) || decide (6 < s.kind)) || !snumR s) || !stoR s) || !(skeyF s && vright s.key)) = !srt s := by
  have h1 : decide (s.kind < 1) = !decide (1 ≤ s.kind) := by
    by_cases h : 1 ≤ s.kind
    · rw [decide_eq_true h, decide_eq_false (by omega)]; rfl
    · rw [decide_eq_false h, decide_eq_true (by omega)]; rfl
  have h2 : decide (6 < s.kind) = !decide (s.kind ≤ 6) := by
    by_cases h : s.kind ≤ 6
    · rw [decide_eq_true h, decide_eq_false (by omega)]; rfl
    · rw [decide_eq_false h, decide_eq_true (by omega)]; rfl
  unfold srt
  rw [h1, h2]
  generalize decide (1 ≤ s.kind) = a, decide (s.kind ≤ 6) = b, snumR s = c, stoR s = d, (skeyF s && vright s.key) = e
  cases a <;> cases b <;> cases c <;> cases d <;> cases e <;> rfl
set_option maxRecDepth 100000 in
set_option maxHeartbeats 1000000 in
theorem wrong_ef (s : St) (hs : Short s.key) : EF Tryz.prog [] 39 [.many (sd s)] (.part (tP (!srt s))) := by
  refine ef_enter 26 Tryz.func39 rfl rfl rfl fun w D => ?_
  try refine e_fl ?_
  refine e_list ?_
  refine e_box 1 rfl rfl rfl rfl (kn rfl) rfl rfl rfl rfl ?_
  refine l_as ?_
  refine e_nil ?_
  try refine e_fl ?_
  refine e_plain (w_op rfl rfl rfl (s_faddr_box rfl (kn rfl) off_62_0) (w_op rfl rfl rfl (s_load1_box rfl (kn rfl) rfl rfl one_3) (w_op rfl rfl rfl (s_bin rfl (kn rfl) (kn rfl) v_lss) (w_mv rfl rfl rfl rfl rfl (Walk.gd _ rfl rfl rfl (fun h => s_faddr_box rfl (kn rfl) off_62_0) (Walk.gd _ rfl rfl rfl (fun h => s_load1_box rfl (kn_opt rfl h) rfl rfl one_3) (Walk.gd _ rfl rfl rfl (fun h => s_bin rfl (kn_opt rfl h) (kn rfl) v_gtr) (w_op rfl rfl rfl (s_or rfl (kn rfl) (fun hb => kn_opt rfl hb)) (w_mv rfl rfl rfl rfl rfl (Walk.gd _ rfl rfl rfl (fun h => s_loadn_box (ds := [_, _, _, _, _, _, _, _, _, _]) 10 rfl (kn rfl) rfl rfl agg_62 sz_62 rfl) (Walk.gd _ rfl rfl rfl (fun h => s_call rfl (by kernel_rfl) (snum_ef s) ⟨(kn_opt rfl h), trivial⟩) (Walk.gd _ rfl rfl rfl (fun h => s_not rfl (kn_opt rfl h)) (w_op rfl rfl rfl (s_or rfl (kn rfl) (fun hb => kn_opt rfl hb)) (w_mv rfl rfl rfl rfl rfl (Walk.gd _ rfl rfl rfl (fun h => s_loadn_box (ds := [_, _, _, _, _, _, _, _, _, _]) 10 rfl (kn rfl) rfl rfl agg_62 sz_62 rfl) (Walk.gd _ rfl rfl rfl (fun h => s_call rfl (by kernel_rfl) (sto_ef s) ⟨(kn_opt rfl h), trivial⟩) (Walk.gd _ rfl rfl rfl (fun h => s_not rfl (kn_opt rfl h)) (w_op rfl rfl rfl (s_or rfl (kn rfl) (fun hb => kn_opt rfl hb)) (w_mv rfl rfl rfl rfl rfl (Walk.gd _ rfl rfl rfl (fun h => s_loadn_box (ds := [_, _, _, _, _, _, _, _, _, _]) 10 rfl (kn rfl) rfl rfl agg_62 sz_62 rfl) (Walk.gd _ rfl rfl rfl (fun h => s_call rfl (by kernel_rfl) (skey_ef s hs) ⟨(kn_opt rfl h), trivial⟩) (Walk.gd _ rfl rfl rfl (fun h => s_not rfl (kn_opt rfl h)) (w_op rfl rfl rfl (s_or rfl (kn rfl) (fun hb => kn_opt rfl hb)) (w_as rfl rfl rfl rfl rfl .nil)))))))))))))))))))))))) ?_
  try refine e_fl ?_
  exact e_return rfl rfl (.tmp (kn rfl) (.nil)) (tP_eq (srt_wrong s)) rfl
def fidx {α : Type} (p : α → Bool) : List α → Nat → Int
  | [], _ => -1
  | x :: l, k => if p x then (k : Int) else fidx p l (k + 1)
theorem fidx_any {α : Type} {p : α → Bool} : ∀ (l : List α) (k : Nat), decide ((0 : Int) ≤ fidx p l k) = l.any p
  | [], k => rfl
  | x :: l, k => by
    unfold fidx
    rw [List.any_cons]
    cases h : p x
    · rw [if_neg (by decide), fidx_any l (k + 1), Bool.false_or]
    · rw [if_pos rfl, Bool.true_or]
      exact decide_eq_true (by omega)
theorem fidx_here {α : Type} {p : α → Bool} {l : List α} {k : Nat} {x : α} {z : Int} (hx : l[k]? = some x) (h : z = fidx p (l.drop k) k) (hp : p x = true) : z = (k : Int) := by
  rw [h, drop_cons hx, fidx, if_pos hp]
theorem fidx_next {α : Type} {p : α → Bool} {l : List α} {k : Nat} {x : α} {z : Int} (hx : l[k]? = some x) (h : z = fidx p (l.drop k) k) (hp : p x = false) : z = fidx p (l.drop (k + 1)) (k + 1) := by
  rw [h, drop_cons hx, fidx, if_neg (by rw [hp]; decide)]
theorem fidx_end {α : Type} {p : α → Bool} {l : List α} {k : Nat} {z : Int} (hk : l.length ≤ k) (h : z = fidx p (l.drop k) k) : z = -1 := by
  rw [h, List.drop_eq_nil_of_le hk, fidx]
set_option maxRecDepth 100000 in
theorem idx_steps_ef (f : FuncId) (hfc : callable Tryz.prog f = true) (l : List St) (hl : l.length ≤ 1000000) (p : St → Bool) (hc : ∀ x ∈ l, EF Tryz.prog [] f [.many (sd x)] (.part (tP (p x)))) : EF Tryz.prog [] 64 [stD l, fP f] (.part (iP (fidx p l 0))) := by
  refine ef_enter 19 Tryz.func64 rfl rfl rfl fun w D => ?_
  try refine e_fl ?_
  refine e_plain (w_as rfl rfl rfl rfl rfl .nil) ?_
  try refine e_fl ?_
  refine e_plain (w_mv rfl rfl rfl rfl rfl (w_op rfl rfl rfl (s_len rfl (kn rfl) sle_29) (w_mv rfl rfl rfl rfl rfl .nil))) ?_
  try refine e_fl ?_
  refine e_loop (ι := { k : Nat // k ≤ l.length ∧ fidx p l 0 = fidx p (l.drop k) k })
    (fun k => [(0, .part (stD l)), (1, .part (fP f)), (7, .is (.int .i64 (l.length : Int))), (8, .is (.int .i64 (k.1 : Int)))])
    (fun _ => []) (fun _ => []) (fun k => l.length - k.1) ⟨0, by omega, rfl⟩
    (fun K => e_sub ⟨s_t, s_t, s_t, s_t, trivial⟩ trivial trivial) ?_
  rintro ⟨k, hk, hw⟩
  dsimp only at hk hw ⊢
  try refine e_fl ?_
  refine e_plain (w_op rfl rfl rfl (s_bin rfl (kn rfl) (kn rfl) v_lss) .nil) ?_
  try refine e_fl ?_
  refine e_cond rfl (fun h => ?_) (fun h => ?_)
  · have hlt : k < l.length := by have := of_decide_eq_true h; omega
    obtain ⟨x, hx⟩ : ∃ x, l[k]? = some x := ⟨_, List.getElem?_eq_getElem hlt⟩
    try refine e_fl ?_
    refine e_plain (w_mv rfl rfl rfl rfl rfl (w_as rfl rfl rfl rfl rfl .nil)) ?_
    try refine e_fl ?_
    refine e_plain (w_mv rfl rfl rfl rfl rfl (w_mv rfl rfl rfl rfl rfl (w_mv rfl rfl rfl rfl rfl (w_op rfl rfl rfl (s_index rfl (kn rfl) (kn rfl) (by omega) hx stDats_len sle_29 esz_29 (stDats_sd x)) (w_op rfl rfl rfl (s_loadn_ref rfl (kn rfl) agg_62 sz_62) (w_op rfl rfl rfl (s_callf rfl hfc (kn rfl) (hc x (List.mem_of_getElem? hx)) ⟨kn rfl, trivial⟩) .nil)))))) ?_
    try refine e_fl ?_
    refine e_cond rfl (fun h1 => ?_) (fun h1 => ?_)
    · have e := fidx_here hx hw h1
      try refine e_fl ?_
      refine e_plain (w_mv rfl rfl rfl rfl rfl (w_as rfl rfl rfl rfl rfl .nil)) ?_
      try refine e_fl ?_
      exact e_return rfl rfl (.tmp (kn rfl) (.nil)) (Imp.of_eq (by rw [e]; rfl)) rfl
    try refine e_fl ?_
    refine e_plain (w_op rfl rfl rfl (s_bin rfl (kn rfl) (kn rfl) (v_add64 (by first | omega | (dsimp only; omega) | omega))) (w_mv rfl rfl rfl rfl rfl .nil)) ?_
    try refine e_fl ?_
    refine e_again ⟨k + 1, by omega, fidx_next hx hw h1⟩ (by dsimp only; omega) (fun K => e_sub ⟨s_t, s_t, s_t, s_t, trivial⟩ trivial trivial)
  have e : fidx p l 0 = -1 := fidx_end (by have := of_decide_eq_false h; omega) hw
  try refine e_fl ?_
  refine e_plain (w_as rfl rfl rfl rfl rfl .nil) ?_
  try refine e_fl ?_
  exact e_return rfl rfl (.tmp (kn rfl) (.nil)) (Imp.of_eq (by rw [e]; rfl)) rfl
set_option maxRecDepth 100000 in
theorem has_steps_ef (f : FuncId) (hfc : callable Tryz.prog f = true) (l : List St) (hl : l.length ≤ 1000000) (p : St → Bool) (hc : ∀ x ∈ l, EF Tryz.prog [] f [.many (sd x)] (.part (tP (p x)))) : EF Tryz.prog [] 38 [stD l, fP f] (.part (tP (l.any p))) := by
  refine ef_enter 9 Tryz.func38 rfl rfl rfl fun w D => ?_
  try refine e_fl ?_
  refine e_plain (w_as rfl rfl rfl rfl rfl .nil) ?_
  try refine e_fl ?_
  refine e_plain (w_mv rfl rfl rfl rfl rfl (w_mv rfl rfl rfl rfl rfl (w_op rfl rfl rfl (s_call rfl (by kernel_rfl) (idx_steps_ef f hfc l hl p hc) ⟨(kn rfl), ⟨(kn rfl), trivial⟩⟩) (w_op rfl rfl rfl (s_bin rfl (kn rfl) (kn rfl) v_geq) (w_as rfl rfl rfl rfl rfl .nil))))) ?_
  try refine e_fl ?_
  exact e_return rfl rfl (.tmp (kn rfl) (.nil)) (tP_eq (fidx_any l 0)) rfl
theorem any_not {α : Type} (p : α → Bool) (l : List α) : (!l.any fun x => !p x) = l.all p := by
  induction l with
  | nil => rfl
  | cons x l ih => rw [List.any_cons, List.all_cons, ← ih, Bool.not_or, Bool.not_not]
def KeysShort (p : List St) : Prop := ∀ s ∈ p, Short s.key
set_option maxRecDepth 100000 in
theorem pright_ef (p : List St) (hl : p.length ≤ 1000000) (hp : KeysShort p) : EF Tryz.prog [] 15 [stD p] (.part (tP (p.all srt))) := by
  refine ef_enter 6 Tryz.func15 rfl rfl rfl fun w D => ?_
  try refine e_fl ?_
  refine e_plain (w_as rfl rfl rfl rfl rfl .nil) ?_
  try refine e_fl ?_
  refine e_plain (w_mv rfl rfl rfl rfl rfl (w_op rfl rfl rfl (s_call rfl (by kernel_rfl) (has_steps_ef 39 (by kernel_rfl) p hl (fun s => !srt s) (fun s hs => wrong_ef s (hp s hs))) ⟨(kn rfl), ⟨(kn rfl), trivial⟩⟩) (w_op rfl rfl rfl (s_not rfl (kn rfl)) (w_as rfl rfl rfl rfl rfl .nil)))) ?_
  try refine e_fl ?_
  exact e_return rfl rfl (.tmp (kn rfl) (.nil)) (tP_eq (any_not srt p)) rfl
def plong (p : List St) : Bool := decide (20 < p.length) || p.any fun s => vbig s.key 10
def KeysFine (p : List St) : Prop := ∀ s ∈ p, s.key.Fine
theorem any_none {α : Type} {p : α → Bool} {l : List α} {k : Nat} (hk : l.length ≤ k) (h : l.any p = (l.drop k).any p) : l.any p = false := by
  rw [h, List.drop_eq_nil_of_le hk]
  rfl
theorem any_step {α : Type} {p : α → Bool} {l : List α} {k : Nat} {x : α} (hx : l[k]? = some x) (h : l.any p = (l.drop k).any p) : l.any p = (p x || (l.drop (k + 1)).any p) := by
  rw [h, drop_cons hx, List.any_cons]
set_option maxRecDepth 100000 in
theorem plong_ef (p : List St) (kp : KeysFine p) : EF Tryz.prog [] 8 [stD p] (.part (tP (plong p))) := by
  refine ef_enter 18 Tryz.func8 rfl rfl rfl fun w D => ?_
  try refine e_fl ?_
  refine e_plain (w_as rfl rfl rfl rfl rfl .nil) ?_
  try refine e_fl ?_
  refine e_plain (w_mv rfl rfl rfl rfl rfl (w_op rfl rfl rfl (s_len rfl (kn rfl) sle_29) (w_op rfl rfl rfl (s_bin rfl (kn rfl) (kn rfl) v_gtr) .nil))) ?_
  try refine e_fl ?_
  refine e_cond rfl (fun h => ?_) (fun h => ?_)
  · have e : plong p = true := by
      have : decide (20 < p.length) = true := decide_eq_true (by have := of_decide_eq_true h; omega)
      unfold plong
      rw [this]
      rfl
    try refine e_fl ?_
    refine e_plain (w_as rfl rfl rfl rfl rfl .nil) ?_
    try refine e_fl ?_
    exact e_return rfl rfl (.tmp (kn rfl) (.nil)) (tP_eq e.symm) rfl
  have e0 : plong p = p.any fun s => vbig s.key 10 := by
    have : decide (20 < p.length) = false := decide_eq_false (by have := of_decide_eq_false h; omega)
    unfold plong
    rw [this]
    rfl
  have h20 : p.length ≤ 20 := by have := of_decide_eq_false h; omega
  rw [e0]
  try refine e_fl ?_
  refine e_plain (w_mv rfl rfl rfl rfl rfl (w_op rfl rfl rfl (s_len rfl (kn rfl) sle_29) (w_mv rfl rfl rfl rfl rfl .nil))) ?_
  try refine e_fl ?_
  refine e_loop (ι := { k : Nat // k ≤ p.length ∧ (p.any fun s => vbig s.key 10) = (p.drop k).any fun s => vbig s.key 10 })
    (fun k => [(8, .part (stD p)), (9, .is (.int .i64 (p.length : Int))), (10, .is (.int .i64 (k.1 : Int)))])
    (fun _ => []) (fun _ => []) (fun k => p.length - k.1) ⟨0, by omega, rfl⟩
    (fun K => e_sub ⟨s_t, s_t, s_t, trivial⟩ trivial trivial) ?_
  rintro ⟨k, hk, hw⟩
  dsimp only at hk hw ⊢
  try refine e_fl ?_
  refine e_plain (w_op rfl rfl rfl (s_bin rfl (kn rfl) (kn rfl) v_lss) .nil) ?_
  try refine e_fl ?_
  refine e_cond rfl (fun h1 => ?_) (fun h1 => ?_)
  · have hlt : k < p.length := by have := of_decide_eq_true h1; omega
    obtain ⟨x, hx⟩ : ∃ x, p[k]? = some x := ⟨_, List.getElem?_eq_getElem hlt⟩
    have hst := any_step hx hw
    try refine e_fl ?_
    refine e_list ?_
    refine l_op (s_index rfl (kn rfl) (kn rfl) (by omega) hx stDats_len sle_29 esz_29 (stDats_sd x)) ?_
    refine l_op (s_loadn_ref rfl (kn rfl) agg_62 sz_62) ?_
    refine e_alloc 4 [.is (.int .i64 0), .is (.int .i64 0), .is (.int .i64 0), .is (.int .i64 0), .is (.int .u64 0), .is (.string ⟨#[]⟩), .is (.slice none 0 0), .is (.string ⟨#[]⟩), .is (.slice none 0 0), .is (.slice none 0 0)] rfl rfl rfl rfl zr_62 (fun w D M V => ⟨rfl, fun j x v h1 h2 => cfit_is _ h1 h2 rfl⟩) rfl rfl rfl rfl ?_
    refine e_storew rfl rfl rfl (kn rfl) rfl (kn rfl) rfl rfl sz_62 ?_
    refine e_nil ?_
    try refine e_fl ?_
    refine e_plain (w_op rfl rfl rfl (s_faddr_box rfl (kn rfl) off_62_3) (w_op rfl rfl rfl (s_loadn_box (ds := [_, _, _, _, _, _, _]) 7 rfl (kn rfl) rfl rfl agg_27 sz_27 rfl) (w_op rfl rfl rfl (s_call rfl (by kernel_rfl) (big_ef x.key 10 (kp x (List.mem_of_getElem? hx)) (by decide) (by decide)) ⟨(kn rfl), ⟨(kn rfl), trivial⟩⟩) .nil))) ?_
    try refine e_fl ?_
    refine e_cond rfl (fun h2 => ?_) (fun h2 => ?_)
    · try refine e_fl ?_
      refine e_plain (w_as rfl rfl rfl rfl rfl .nil) ?_
      try refine e_fl ?_
      exact e_return rfl rfl (.tmp (kn rfl) (.nil)) (tP_eq (by rw [hst, h2]; rfl)) rfl
    try refine e_fl ?_
    refine e_plain (w_op rfl rfl rfl (s_bin rfl (kn rfl) (kn rfl) (v_add64 (by first | omega | (dsimp only; omega) | omega))) (w_mv rfl rfl rfl rfl rfl .nil)) ?_
    try refine e_fl ?_
    refine e_again ⟨k + 1, by omega, ?_⟩ (by dsimp only; omega) (fun K => e_sub ⟨s_t, s_t, s_t, trivial⟩ trivial trivial)
    rw [hst, h2]
    rfl
  try refine e_fl ?_
  refine e_plain (w_as rfl rfl rfl rfl rfl .nil) ?_
  try refine e_fl ?_
  exact e_return rfl rfl (.tmp (kn rfl) (.nil)) (tP_eq (any_none (by have := of_decide_eq_false h1; omega) hw).symm) rfl
end Go.Proofs.YtagoikglbifhmaaGreatDoor
namespace Go.Proofs.YtagoikglbifhmaaGreatDoor
open Go
theorem fright_iff (p : Int) (f : Int × Vl) (fs : List (Int × Vl)) : fright p (f :: fs) = true ↔ 1 ≤ f.1 ∧ f.1 ≤ 536870911 ∧ p < f.1 ∧ f.2.kind ≠ 0 ∧ vright f.2 = true ∧ fright f.1 fs = true := by
  obtain ⟨n, x⟩ := f
  rw [fright]
  simp only [Bool.and_eq_true, decide_eq_true_eq, and_assoc]
end Go.Proofs.YtagoikglbifhmaaGreatDoor
namespace Go.Proofs.YtagoikglbifhmaaGreatDoor
open Go
def gidx {α : Type} (c : α → Int) (l : List α) : Nat := (l.takeWhile fun x => decide (c x < 0)).length
def gfound {α : Type} [Inhabited α] (c : α → Int) (l : List α) : Bool := decide (gidx c l < l.length) && decide (c (l.getD (gidx c l) default) = 0)
theorem gidx_of {α : Type} {c : α → Int} : ∀ {l : List α} {i : Nat}, i ≤ l.length → (∀ (p : Nat) x, p < i → l[p]? = some x → c x < 0) → (∀ x, l[i]? = some x → ¬ c x < 0) → gidx c l = i
  | [], i, h, _, _ => by
    have : i = 0 := by simpa using h
    rw [this]; rfl
  | a :: l, 0, _, _, h2 => by
    unfold gidx
    rw [List.takeWhile_cons, decide_eq_false (h2 a rfl)]
    rfl
  | a :: l, i + 1, h, h1, h2 => by
    have ih := gidx_of (c := c) (l := l) (i := i) (by simpa using h) (fun p x hp hx => h1 (p + 1) x (by omega) (by simpa using hx)) (fun x hx => h2 x (by simpa using hx))
    unfold gidx at ih ⊢
    rw [List.takeWhile_cons, decide_eq_true (h1 0 a (by omega) rfl)]
    simp [ih]
theorem gidx_cons_lt {α : Type} {c : α → Int} {a : α} {l : List α} (h : c a < 0) : gidx c (a :: l) = gidx c l + 1 := by
  unfold gidx
  rw [List.takeWhile_cons, decide_eq_true h]
  rfl
theorem gidx_cons_ge {α : Type} {c : α → Int} {a : α} {l : List α} (h : ¬ c a < 0) : gidx c (a :: l) = 0 := by
  unfold gidx
  rw [List.takeWhile_cons, decide_eq_false h]
  rfl
theorem gfound_cons_lt {α : Type} [Inhabited α] {c : α → Int} {a : α} {l : List α} (h : c a < 0) : gfound c (a :: l) = gfound c l := by
  unfold gfound
  rw [gidx_cons_lt h]
  simp
theorem gfound_cons_ge {α : Type} [Inhabited α] {c : α → Int} {a : α} {l : List α} (h : ¬ c a < 0) : gfound c (a :: l) = decide (c a = 0) := by
  unfold gfound
  rw [gidx_cons_ge h]
  simp
def fto (n : Int) (f : Int × Vl) : Int := icmp f.1 n
theorem fright_mono {n : Int} : ∀ {p : Int} {fs : List (Int × Vl)}, fright p fs = true → ∀ (i j : Nat) (x y : Int × Vl), i ≤ j → fs[i]? = some x → fs[j]? = some y → fto n y < 0 → fto n x < 0
  | _, [], _, i, j, x, y, _, hx, _, _ => by simp at hx
  | p, f :: fs, h, 0, 0, x, y, _, hx, hy, hc => by
    have e : x = y := by simp at hx hy; rw [← hx, hy]
    rw [e]; exact hc
  | p, f :: fs, h, 0, j + 1, x, y, _, hx, hy, hc => by
    obtain ⟨h1, h2, h3, h4, h5, h6⟩ := (fright_iff p f fs).1 h
    have hl : ∀ {q : Int} {gs : List (Int × Vl)}, fright q gs = true → ∀ g ∈ gs, q < g.1 := by
      intro q gs
      induction gs generalizing q with
      | nil => intro _ g hg; cases hg
      | cons a gs ih =>
        intro h g hg
        obtain ⟨_, _, k3, _, _, k6⟩ := (fright_iff q a gs).1 h
        rcases List.mem_cons.1 hg with rfl | hg
        · exact k3
        · have := ih k6 g hg
          omega
    obtain rfl : f = x := by simpa using hx
    have hy' : y ∈ fs := List.mem_of_getElem? (i := j) (by simpa using hy)
    have := hl h6 y hy'
    rw [fto, icmp_neg_iff] at hc ⊢
    omega
  | p, f :: fs, h, i + 1, j + 1, x, y, hij, hx, hy, hc => by
    obtain ⟨h1, h2, h3, h4, h5, h6⟩ := (fright_iff p f fs).1 h
    exact fright_mono h6 i j x y (by omega) (by simpa using hx) (by simpa using hy) hc
  | _, _ :: _, _, _ + 1, 0, _, _, hij, _, _, _ => by omega
theorem find_found (n : Int) : ∀ {p : Int} {fs : List (Int × Vl)}, fright p fs = true → fs.find? (fun f => f.1 == n) = if gfound (fto n) fs then some (fs.getD (gidx (fto n) fs) default) else none
  | _, [], _ => by simp [gfound]
  | p, f :: fs, h => by
    obtain ⟨h1, h2, h3, h4, h5, h6⟩ := (fright_iff p f fs).1 h
    rcases Int.lt_or_le f.1 n with hlt | hge
    · have hc : fto n f < 0 := (icmp_neg_iff _ _).2 hlt
      rw [gfound_cons_lt hc, gidx_cons_lt hc, List.find?_cons, show (f.1 == n) = false by simpa using (by omega : ¬ f.1 = n)]
      simpa using find_found n h6
    · have hc : ¬ fto n f < 0 := fun h => by
        have := (icmp_neg_iff _ _).1 h
        omega
      have h0 : fto n f = 0 ↔ f.1 = n := by
        unfold fto icmp
        repeat' split
        all_goals omega
      rw [gfound_cons_ge hc, gidx_cons_ge hc, List.find?_cons]
      by_cases he : f.1 = n
      · rw [show (f.1 == n) = true by simpa using he, decide_eq_true (h0.2 he)]
        rfl
      · rw [show (f.1 == n) = false by simpa using he, decide_eq_false (fun h => he (h0.1 h))]
        have hno : ∀ {q : Int} {gs : List (Int × Vl)}, n ≤ q → fright q gs = true → gs.find? (fun f => f.1 == n) = none := by
          intro q gs
          induction gs generalizing q with
          | nil => intros; rfl
          | cons a gs ih =>
            intro hq h
            obtain ⟨_, _, k3, _, _, k6⟩ := (fright_iff q a gs).1 h
            rw [List.find?_cons, show (a.1 == n) = false by simpa using (by omega : ¬ a.1 = n)]
            exact ih (by omega) k6
        exact hno hge h6
def pto (k : Vl) (p : Vl × Vl) : Int := vcmp p.1 k
def Rises : List (Vl × Vl) → Prop
  | [] => True
  | p :: ps => (∀ q ∈ ps, vcmp p.1 q.1 < 0) ∧ Rises ps
theorem vcmp_lt {a b c : Vl} (h1 : vcmp a b < 0) (h2 : vcmp b c ≤ 0) : vcmp a c < 0 := (vcmp_tri a b c).2.1 h1 h2
theorem vcmp_lt2 {a b c : Vl} (h1 : vcmp a b ≤ 0) (h2 : vcmp b c < 0) : vcmp a c < 0 := (vcmp_tri a b c).2.2.1 h1 h2
theorem rises_of : ∀ {ps : List (Vl × Vl)}, grises pkeyc ps = true → Rises ps
  | [], _ => trivial
  | [p], _ => ⟨fun q hq => absurd hq (List.not_mem_nil), trivial⟩
  | p :: q :: ps, h => by
    rw [grises, Bool.and_eq_true] at h
    have h1 : vcmp p.1 q.1 < 0 := of_decide_eq_true h.1
    have ih := rises_of h.2
    refine ⟨fun r hr => ?_, ih⟩
    rcases List.mem_cons.1 hr with rfl | hr
    · exact h1
    · exact vcmp_lt h1 (Int.le_of_lt (ih.1 r hr))
theorem rises_right {v : Vl} (h : vright v = true) : Rises v.pairs := by
  rw [vright_eq] at h
  simp only [Bool.and_eq_true] at h
  have hp := h.2
  rw [pright_prog] at hp
  revert hp
  cases v.pairs with
  | nil => exact fun _ => trivial
  | cons p ps =>
    intro hp
    simp only [prights, Bool.or_eq_true, Bool.and_eq_true, reduceCtorEq, decide_false, Bool.false_eq_true, false_or] at hp
    exact rises_of hp.2.2
theorem pto_mono {k : Vl} : ∀ {ps : List (Vl × Vl)}, Rises ps → ∀ (i j : Nat) (x y : Vl × Vl), i ≤ j → ps[i]? = some x → ps[j]? = some y → pto k y < 0 → pto k x < 0
  | [], _, i, j, x, y, _, hx, _, _ => by simp at hx
  | p :: ps, h, 0, 0, x, y, _, hx, hy, hc => by
    have e : x = y := by simp at hx hy; rw [← hx, hy]
    rw [e]; exact hc
  | p :: ps, h, 0, j + 1, x, y, _, hx, hy, hc => by
    obtain rfl : p = x := by simpa using hx
    have hy' : y ∈ ps := List.mem_of_getElem? (i := j) (by simpa using hy)
    exact vcmp_lt (h.1 y hy') (Int.le_of_lt hc)
  | p :: ps, h, i + 1, j + 1, x, y, hij, hx, hy, hc => pto_mono h.2 i j x y (by omega) (by simpa using hx) (by simpa using hy) hc
  | _ :: _, _, _ + 1, 0, _, _, hij, _, _, _ => by omega
theorem findp_found (key : Vl) : ∀ {fs : List (Vl × Vl)}, Rises fs → fs.find? (fun p => vcmp p.1 key == 0) = if gfound (pto key) fs then some (fs.getD (gidx (pto key) fs) default) else none
  | [], _ => by simp [gfound]
  | f :: fs, h => by
    rcases Int.lt_or_le (vcmp f.1 key) 0 with hlt | hge
    · have hc : pto key f < 0 := hlt
      rw [gfound_cons_lt hc, gidx_cons_lt hc, List.find?_cons, show (vcmp f.1 key == 0) = false by simpa using (by omega : ¬ vcmp f.1 key = 0)]
      simpa using findp_found key h.2
    · have hc : ¬ pto key f < 0 := by show ¬ vcmp f.1 key < 0; omega
      rw [gfound_cons_ge hc, gidx_cons_ge hc, List.find?_cons]
      by_cases he : vcmp f.1 key = 0
      · rw [show (vcmp f.1 key == 0) = true by simpa using he, show decide (pto key f = 0) = true from decide_eq_true he]
        rfl
      · rw [show (vcmp f.1 key == 0) = false by simpa using he, show decide (pto key f = 0) = false from decide_eq_false he]
        show fs.find? (fun p => vcmp p.1 key == 0) = none
        rw [List.find?_eq_none]
        intro q hq
        have h1 := h.1 q hq
        have h5 := @vcmp_lt2 key f.1 q.1 (by have := vcmp_neg key f.1; omega) h1
        have h6 := vcmp_neg key q.1
        simp
        omega
end Go.Proofs.YtagoikglbifhmaaGreatDoor
