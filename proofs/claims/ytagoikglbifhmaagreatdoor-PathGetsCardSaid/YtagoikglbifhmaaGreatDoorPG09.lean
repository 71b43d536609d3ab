/- Part 9 of what the last text of this claim is proved by: walks over the program, and the math behind them. Conditions: as each theorem says. -/
import Derived.Test.YtagoikglbifhmaaGreatDoorPG08
import Derived.Laws.Build
import Derived.Laws.Strings2
import Derived.Test.YtagoikglbifhmaaGreatDoorProg
import Derived.Laws.Entries
import Derived.ChangeArms
import Derived.Deep.Slices
import Derived.Deep.Fields
import Derived.ChangeSame
import Derived.OpenShut
namespace Go.Proofs.YtagoikglbifhmaaGreatDoor
open Go.RowKit
section
variable {P : Program} {cx : Cx} {T : TL} {B : BL} {R : RL} {o : Oper}
abbrev IV.str (l : List UInt8) : IV := .is (.string (Go.Proofs.YtagoikglbifhmaaGreatDoor.str l))
section
variable {t : TypeId} {a b : List UInt8}
theorem v_sadd (h : a.length + b.length ≤ 9223372036854775807) : BinV P .add t (.string (str a)) (.string (str b)) (.string (str (a ++ b))) := fun _ _ w => by
  have h1 : ¬ (9223372036854775807 < ((str a).size + (str b).size)) := by rw [strSize, strSize]; omega
  have h2 : ¬ ((((str a).size + (str b).size : Nat) : Int) > IntKind.i64.max) := by
    have : IntKind.i64.max = 9223372036854775807 := by decide
    rw [this]
    omega
  simp only [eqGuard, binOp, Op.stringOp]
  rw [if_neg h2, str_append]
  rfl
theorem list_beq (a b : List UInt8) : (a == b) = decide (a = b) := by
  by_cases h : a = b
  · subst h
    simp
  · rw [decide_eq_false h]
    simpa using h
theorem v_seql : BinV P .eql t (.string (str a)) (.string (str b)) (.bool (decide (a = b))) := fun _ _ w => by
  simp only [eqGuard, binOp, Op.stringOp, str_toList, list_beq]
  rfl
theorem v_sneq : BinV P .neq t (.string (str a)) (.string (str b)) (.bool (!decide (a = b))) := fun _ _ w => by
  simp only [eqGuard, binOp, Op.stringOp, str_toList, list_beq]
  rfl
end
theorem s_slen {x : Operand} {t : TypeId} {l : List UInt8} (ho : o.op = .call { callee := .builtin .len, args := #[x], argTypes := #[t] }) (hx : Kn T x (.is (.string (str l)))) (ht : P.underlying t = some .string) :
    LStep P cx B R o T (.is (.int .i64 (l.length : Int))) := LStep.same fun M V w a _ hk => by
  have h1 := (hk x _ (by simp [ho, Op.operands, Call.operands]) hx).is_eq
  exact ⟨_, by simp [execOp, ho, h1, resolve, invoke, builtin, run_len_string w t _ (str l) ht, goInt, strSize], .cell _⟩
theorem s_sindex {x i : Operand} {t : TypeId} {l : List UInt8} {k : IntKind} {z : Int} {c : UInt8} (ho : o.op = .index t x i) (hx : Kn T x (.is (.string (str l)))) (hi : Kn T i (.is (.int k z))) (hz : 0 ≤ z) (hc : l[z.toNat]? = some c) (ht : P.underlying t = some .string) :
    LStep P cx B R o T (.is (.int .u8 (c.toNat : Int))) := LStep.same fun M V w a _ hk => by
  have h1 := (hk x _ (by simp [ho, Op.operands]) hx).is_eq
  have h2 := (hk i _ (by simp [ho, Op.operands]) hi).is_eq
  have hlt := (List.getElem?_eq_some_iff.1 hc).1
  have h3 := run_index_string (P := P) w t (str l) k z ht
  rw [dif_pos ⟨hz, by rw [strSize]; omega⟩] at h3
  have h4 : (str l)[z.toNat]'(by rw [strSize]; exact hlt) = c := (List.getElem?_eq_some_iff.1 hc).2
  rw [h4] at h3
  exact ⟨_, by simp [execOp, ho, h1, h2, h3], .cell _⟩
theorem s_sslice_from {x lo : Operand} {t : TypeId} {l : List UInt8} {k : IntKind} {z : Int} (ho : o.op = .slice t x (some lo) none none) (hx : Kn T x (.is (.string (str l)))) (hl : Kn T lo (.is (.int k z))) (hz : 0 ≤ z ∧ z ≤ (l.length : Int)) (ht : P.underlying t = some .string) :
    LStep P cx B R o T (.is (.string (str (l.drop z.toNat)))) := LStep.same fun M V w a _ hk => by
  have h1 := (hk x _ (by simp [ho, Op.operands]) hx).is_eq
  have h2 := (hk lo _ (by simp [ho, Op.operands]) hl).is_eq
  have h3 := run_slice_string_from_if (P := P) w t (str l) k z ht
  rw [if_pos ⟨hz.1, by rw [strSize]; exact hz.2⟩, str_extract, strSize, List.take_of_length_le (by rw [List.length_drop]; omega)] at h3
  exact ⟨_, by simp [execOp, ho, h1, h2, run_sliceAt_string w t _ _ _ _ ht, h3], .cell _⟩
theorem s_sslice_to {x hi : Operand} {t : TypeId} {l : List UInt8} {k : IntKind} {z : Int} (ho : o.op = .slice t x none (some hi) none) (hx : Kn T x (.is (.string (str l)))) (hl : Kn T hi (.is (.int k z))) (hz : 0 ≤ z ∧ z ≤ (l.length : Int)) (ht : P.underlying t = some .string) :
    LStep P cx B R o T (.is (.string (str (l.take z.toNat)))) := LStep.same fun M V w a _ hk => by
  have h1 := (hk x _ (by simp [ho, Op.operands]) hx).is_eq
  have h2 := (hk hi _ (by simp [ho, Op.operands]) hl).is_eq
  have h3 := run_slice_string_to_if (P := P) w t (str l) k z ht
  rw [if_pos ⟨hz.1, by rw [strSize]; exact hz.2⟩, str_extract, List.drop_zero, Nat.sub_zero] at h3
  exact ⟨_, by simp [execOp, ho, h1, h2, run_sliceAt_string w t _ _ _ _ ht, h3], .cell _⟩
theorem run_equalIn_iface (n : Nat) (w : World) {t : TypeId} {ms : Array (String × TypeId)} (ht : P.underlying t = some (.interface ms)) (s : TypeId) (u : Value) : (Op.equalIn (n + 1) t (.iface s u) .nilIface).run P w = .ok false w := by
  rw [Op.equalIn, Sem.run_bind, run_underlying ht]
  rfl
theorem run_equalIn_nil (n : Nat) (w : World) {t : TypeId} {ms : Array (String × TypeId)} (ht : P.underlying t = some (.interface ms)) : (Op.equalIn (n + 1) t .nilIface .nilIface).run P w = .ok true w := by
  rw [Op.equalIn, Sem.run_bind, run_underlying ht]
  rfl
theorem run_equal_iface (w : World) {t : TypeId} {ms : Array (String × TypeId)} (ht : P.underlying t = some (.interface ms)) (s : TypeId) (u : Value) : (Op.equal t (.iface s u) .nilIface).run P w = .ok false w := run_equalIn_iface 9999 w ht s u
theorem run_equal_nil (w : World) {t : TypeId} {ms : Array (String × TypeId)} (ht : P.underlying t = some (.interface ms)) : (Op.equal t .nilIface .nilIface).run P w = .ok true w := run_equalIn_nil 9999 w ht
def Dat.iface? : Dat → Bool
  | .ifc _ _ => true
  | .cell (.iface _ _) => true
  | _ => false
theorem Lies.iface {w : World} {D : Nat → Prop} {d : Dat} {v : Value} (h : Lies w D d v) (hd : d.iface? = true) : ∃ s u, v = .iface s u := by
  cases h with
  | ifc t d v _ => exact ⟨t, v, rfl⟩
  | cell v =>
    cases v <;> first | exact ⟨_, _, rfl⟩ | cases hd
  | none => cases hd
  | row => cases hd
  | ptr => cases hd
  | map => cases hd
theorem s_err_neq {x : Operand} {t t' : TypeId} {ms : Array (String × TypeId)} {d : Dat} (ho : o.op = .binOp .neq t x (.const .nilIface) t') (hx : Kn T x (.part (.one d))) (hd : d.iface? = true) (ht : P.underlying t = some (.interface ms)) : LStep P cx B R o T (.is (.bool true)) := LStep.same fun M V w a _ hk => by
  obtain ⟨s, u, h1⟩ := Lies.iface (hk x _ (by simp [ho, Op.operands]) hx) hd
  have h2 : a.eval (.const .nilIface) = .nilIface := rfl
  exact ⟨_, by simp [execOp, ho, h1, h2, eqGuard, binOp, run_equal_iface w ht], .cell _⟩
theorem s_nil_neq {x : Operand} {t t' : TypeId} {ms : Array (String × TypeId)} (ho : o.op = .binOp .neq t x (.const .nilIface) t') (hx : Kn T x (.is .nilIface)) (ht : P.underlying t = some (.interface ms)) : LStep P cx B R o T (.is (.bool false)) := LStep.same fun M V w a _ hk => by
  have h1 := (hk x _ (by simp [ho, Op.operands]) hx).is_eq
  have h2 : a.eval (.const .nilIface) = .nilIface := rfl
  have hg := eqGuard_nil_constR (op := .neq) (t := t) (x := x) .nilIface
  exact ⟨_, by simp [execOp, ho, h1, h2, hg, binOp, run_equal_nil w ht], .cell _⟩
theorem s_nil_eql {x : Operand} {t t' : TypeId} {ms : Array (String × TypeId)} (ho : o.op = .binOp .eql t x (.const .nilIface) t') (hx : Kn T x (.is .nilIface)) (ht : P.underlying t = some (.interface ms)) : LStep P cx B R o T (.is (.bool true)) := LStep.same fun M V w a _ hk => by
  have h1 := (hk x _ (by simp [ho, Op.operands]) hx).is_eq
  have h2 : a.eval (.const .nilIface) = .nilIface := rfl
  have hg := eqGuard_nil_constR (op := .eql) (t := t) (x := x) .nilIface
  exact ⟨_, by simp [execOp, ho, h1, h2, hg, binOp, run_equal_nil w ht], .cell _⟩
def Cap.iv : Cap → IV
  | .box b j => .box b j
  | .val v => .is v
def KnC (T : TL) : List Operand → List Cap → Prop
  | [], [] => True
  | x :: l, c :: m => Kn T x c.iv ∧ KnC T l m
  | _, _ => False
theorem Cap.iv_eq {w : World} {D : Nat → Prop} {M : Nat → Nat} {V : Nat → Value} {c : Cap} {v : Value} (h : VR w D M V c.iv v) : v = capV M c := by
  cases c with
  | box b j => exact h
  | val u => exact h.is_eq
theorem KnC.eq {w : World} {D : Nat → Prop} {M : Nat → Nat} {V : Nat → Value} {a : Act} : ∀ {l : List Operand} {m : List Cap}, KnC T l m → (∀ x z, x ∈ l → Kn T x z → VR w D M V z (a.eval x)) → l.map a.eval = m.map (capV M)
  | [], [], _, _ => rfl
  | x :: l, c :: m, h, hk => by
    rw [List.map_cons, List.map_cons, Cap.iv_eq (hk x _ List.mem_cons_self h.1), KnC.eq h.2 fun y z hy => hk y z (List.mem_cons_of_mem _ hy)]
  | [], _ :: _, h, _ => h.elim
  | _ :: _, [], h, _ => h.elim
theorem s_func {fn : Fn} {xs ys : List Operand} {fs cs : List Cap} (ho : o.op = .makeFunc fn xs.toArray ys.toArray) (hx : KnC T xs fs) (hy : KnC T ys cs) : LStep P cx B R o T (.clo fn fs cs) := LStep.same fun M V w a _ hk => by
  have h1 := hx.eq fun x z hm hkx => hk x z (by simp [ho, Op.operands]; exact .inl hm) hkx
  have h2 := hy.eq fun x z hm hkx => hk x z (by simp [ho, Op.operands]; exact .inr hm) hkx
  refine ⟨_, ?_, rfl⟩
  unfold execOp
  simp only [ho, List.map_toArray]
  simp only [Instr.makeFunc, h1, h2]
  rfl
theorem caps_VRs {w : World} {D : Nat → Prop} {M : Nat → Nat} {V : Nat → Value} : ∀ cs : List Cap, VRs w D M V (cs.map Cap.iv) (cs.map (capV M))
  | [] => trivial
  | .box _ _ :: cs => ⟨rfl, caps_VRs cs⟩
  | .val v :: cs => ⟨Lies.cell v, caps_VRs cs⟩
theorem VRs.append {w : World} {D : Nat → Prop} {M : Nat → Nat} {V : Nat → Value} : ∀ {xs ys : List IV} {us vs : List Value}, VRs w D M V xs us → VRs w D M V ys vs → VRs w D M V (xs ++ ys) (us ++ vs)
  | [], _, [], _, _, h => h
  | _ :: _, _, _ :: _, _, h1, h2 => ⟨h1.1, VRs.append h1.2 h2⟩
  | [], _, _ :: _, _, h, _ => h.elim
  | _ :: _, _, [], _, h, _ => h.elim
theorem e_callc {ops : Array Oper} {Q : Exit → Act → World → Prop} {l : List Oper} {d : Nat} {f : FuncId} {x : Operand} {xs : List Operand} {ts : Array TypeId} {fs cs : List Cap} {zs ys : List IV} (ρ σ : Nat → Nat) {B0 : BL} {R0 : RL} {Y : IV → BL → RL → Prop} (hg : o.guard = none) (hd : o.dst = some d) (hn : Nat.blt d cx.n = true) (ho : o.op = .call { callee := .value x, args := xs.toArray, argTypes := ts }) (hc : callable P f = true) (hL : Lent B R ρ σ B0 R0)
    (hx : Kn T x (.clo (.func f) fs cs)) (hxs : KnX T xs zs) (hys : ys.map (·.ren ρ σ) = fs.map Cap.iv ++ zs ++ cs.map Cap.iv) (hf : EG P cx.gl f ys B0 R0 Y)
    (hY : ∀ y B1 R1, Y y B1 R1 → names B1 = names B0 ∧ names R1 = names R0 ∧ binB (names B0) (names R0) B1 = true ∧ y.bin (names B0) (names R0) = true)
    (hE : ∀ y B1 R1, Y y B1 R1 → E cx ((d, y.ren ρ σ) :: killTL ((names R0).map σ) T) (renB ρ σ B1 ++ killBL ((names R0).map σ) B) (renR σ R1 ++ R) (wpList P ops Q l)) : E cx T B R (wpList P ops Q (o :: l)) := fun M V a w hr => by
  refine wpList_plain hg fun K hK => ?_
  have h1 : a.eval x = .func (.func f) (fs.map (capV M)).toArray (cs.map (capV M)).toArray := hx w (Dc cx B R M V w) M V a fun t z _ hz => hr.tmp t z hz
  have hrun : (execOp a.eval o).run P w = .ok (.enter f (fs.map (capV M) ++ xs.map a.eval ++ cs.map (capV M)).toArray) w := by
    simp [execOp, ho, resolve, h1, Deferred.ofValue, invoke, run_callable hc]
  have hv : VRs w (Dc cx B R M V w) M V (ys.map (·.ren ρ σ)) (fs.map (capV M) ++ xs.map a.eval ++ cs.map (capV M)) := by
    rw [hys]
    exact ((caps_VRs fs).append (hxs.vrs fun t z hz => hr.tmp t z hz)).append (caps_VRs cs)
  unfold Oper.wp
  rw [hrun]
  simp only [Oper.upon, hd]
  exact (calls_back hr hL hv hf hY (blt_lt hn)).mono fun e w' ⟨v, y, B1, R1, V', h1, h2, h3⟩ => by
    subst h1
    exact hK _ _ (hE y B1 R1 h2 M V' _ _ h3)
theorem e_guard {ops : Array Oper} {Q : Exit → Act → World → Prop} {l : List Oper} {d : Nat} {g : Bool} (hg : gk ops T o = some g) (hd : o.dst = some d) (hn : Nat.blt d cx.n = true) (h1 : g = true → E cx T B R (wpList P ops Q ({ o with guard := none } :: l))) (h0 : g = false → E cx ((d, .is undef) :: T) B R (wpList P ops Q l)) : E cx T B R (wpList P ops Q (o :: l)) := fun M V a w hr => by
  have hw := gk_wanted hg fun t z v _ hz hv => whole_of hv (hr.tmp t z hz)
  cases g with
  | false =>
    refine wpList_step fun K hK => ?_
    rw [hw, if_neg (by simp)]
    refine hK _ _ (h0 rfl M V _ w ?_)
    rw [hd]
    exact hr.put (Below.refl _ _) (blt_lt hn) (Lies.cell undef)
  | true =>
    have h2 := h1 rfl M V a w hr
    unfold wpList at h2 ⊢
    rw [if_pos (by simp [Region.wanted])] at h2
    rw [if_pos hw]
    exact h2
theorem e_boxi {ops : Array Oper} {Q : Exit → Act → World → Prop} {l : List Oper} {d : Nat} {ty : TypeId} {x : Operand} {y : IV} (b : Nat) (hg : o.guard = none) (hd : o.dst = some d) (hn : Nat.blt d cx.n = true) (ho : o.op = .box ty x) (hx : Kn T x y) (h1 : y.isOne = true)
    (hpn : cx.pn.all (fun c => !Nat.beq c b) = true) (hT : nobT b T = true) (hB : nobB b B = true) (hy : y.nob b = true) (hE : E cx ((d, .box b 0) :: T) ((b, ⟨ty, [y]⟩) :: B) R (wpList P ops Q l)) : E cx T B R (wpList P ops Q (o :: l)) := fun M V a w hr => by
  refine wpList_plain hg fun K hK => ?_
  have hv := hx w (Dc cx B R M V w) M V a fun t z _ hz => hr.tmp t z hz
  have hone := hv.one h1
  have hcl : (a.eval x).cells = #[a.eval x] := by
    revert hone
    generalize a.eval x = v
    intro h
    cases v <;> first | rfl | cases h
  have hc : CFit w (Dc cx B R M V w) M V [y] [a.eval x] := ⟨rfl, fun j z v hz hvv => by
    cases j with
    | zero =>
      simp at hz hvv
      subst hz
      subst hvv
      exact ⟨hv, hone⟩
    | succ j => simp at hz⟩
  obtain ⟨M', hr'⟩ := hr.alloc b ty hpn hT hB (by simp [hy]) hc (d := d) (blt_lt hn)
  have := hK _ _ (hE M' V _ _ hr')
  unfold Oper.wp execOp
  simp only [ho, Sem.run_bind]
  simp [Instr.box, newVar, newRow, hcl, Oper.upon, hd]
  exact this
end
end Go.Proofs.YtagoikglbifhmaaGreatDoor
namespace Go.Proofs.YtagoikglbifhmaaGreatDoor
section
variable {P : Program} {cx : Cx} {T T' : TL} {B : BL} {R : RL} {ops : Array Oper} {Q : Exit → Act → World → Prop} {o : Oper} {l : List Oper} {d : Nat} {y : IV} {x : Operand} {ys : List IV}
theorem l_op (h : LStep P cx B R o T y) (hE : E cx ((d, y) :: T) B R (wpList P ops Q l)) (hg : o.guard = none := by exact rfl) (hd : o.dst = some d := by exact rfl) (hn : Nat.blt d cx.n = true := by exact rfl) : E cx T B R (wpList P ops Q (o :: l)) := e_list_op hg hd hn h hE
theorem l_mv (hE : E cx ((d, y) :: T) B R (wpList P ops Q l)) (hg : o.guard = none := by exact rfl) (hd : o.dst = some d := by exact rfl) (hn : Nat.blt d cx.n = true := by exact rfl) (ho : o.op = .move x := by exact rfl) (hk : ev T x = some y := by exact rfl) : E cx T B R (wpList P ops Q (o :: l)) := e_list_op hg hd hn (s_move ho (kn hk)) hE
theorem l_as (hE : E cx ((d, y) :: T) B R (wpList P ops Q l)) (hg : o.guard = none := by exact rfl) (hd : o.dst = some d := by exact rfl) (hn : Nat.blt d cx.n = true := by exact rfl) (ho : o.op = .assign x := by exact rfl) (hk : ev T x = some y := by exact rfl) : E cx T B R (wpList P ops Q (o :: l)) := e_list_op hg hd hn (s_assign ho (kn hk)) hE
theorem l_ex {i : Nat} {ps : List Part} {p : Part} (hE : E cx ((d, .part p) :: T) B R (wpList P ops Q l)) (hg : o.guard = none := by exact rfl) (hd : o.dst = some d := by exact rfl) (hn : Nat.blt d cx.n = true := by exact rfl) (ho : o.op = .extract x i := by exact rfl) (hk : ev T x = some (.tup ps) := by exact rfl) (hi : ps[i]? = some p := by exact rfl) : E cx T B R (wpList P ops Q (o :: l)) := e_list_op hg hd hn (s_extract ho (kn hk) hi) hE
theorem w_op (hg : o.guard = none) (hd : o.dst = some d) (hn : Nat.blt d cx.n = true) (h : LStep P cx B R o T y) (hW : Walk P cx B R ops l ((d, y) :: T) ys T') : Walk P cx B R ops (o :: l) T (y :: ys) T' := .op hg hd hn h hW
theorem w_mv (hg : o.guard = none) (hd : o.dst = some d) (hn : Nat.blt d cx.n = true) (ho : o.op = .move x) (hk : ev T x = some y) (hW : Walk P cx B R ops l ((d, y) :: T) ys T') : Walk P cx B R ops (o :: l) T (y :: ys) T' := .op hg hd hn (s_move ho (kn hk)) hW
theorem w_as (hg : o.guard = none) (hd : o.dst = some d) (hn : Nat.blt d cx.n = true) (ho : o.op = .assign x) (hk : ev T x = some y) (hW : Walk P cx B R ops l ((d, y) :: T) ys T') : Walk P cx B R ops (o :: l) T (y :: ys) T' := .op hg hd hn (s_assign ho (kn hk)) hW
theorem s_t {t : Nat} (h : lk t T = some y := by exact rfl) : ∃ z, lk t T = some z ∧ Imp z y := sub_refl y h
theorem s_b {b : Nat} {z : Bx} (h : lk b B = some z := by exact rfl) : ∃ u, lk b B = some u ∧ u.ty = z.ty ∧ ImpL u.cs z.cs := sb_refl z h
theorem c_no {c : Operand} {a b : Code} (h : E cx T B R (b.wp P Q)) (hc : ev T c = some (.is (.bool false)) := by exact rfl) : E cx T B R ((Code.cond c a b).wp P Q) := e_cond hc (fun h => (by cases h)) fun _ => h
end
end Go.Proofs.YtagoikglbifhmaaGreatDoor
namespace Go.Proofs.YtagoikglbifhmaaGreatDoor
open Go.RowKit
theorem one_3 : oneT Tryz.prog 3 = true := by kernel_rfl
theorem sz_3 : sizeT Tryz.prog 3 = some 1 := by kernel_rfl
theorem int_3 : Tryz.prog.underlying 3 = some (.int .i64) := by kernel_rfl
theorem zr_3 : zeroT Tryz.prog 3 = some [.int .i64 0] := by kernel_rfl
theorem one_4 : oneT Tryz.prog 4 = true := by kernel_rfl
theorem bool_4 : Tryz.prog.underlying 4 = some .bool := by kernel_rfl
theorem sz_5 : sizeT Tryz.prog 5 = some 1 := by kernel_rfl
theorem int_5 : Tryz.prog.underlying 5 = some (.int .u8) := by kernel_rfl
theorem zr_5 : zeroT Tryz.prog 5 = some [.int .u8 0] := by kernel_rfl
theorem one_9 : oneT Tryz.prog 9 = true := by kernel_rfl
theorem sz_9 : sizeT Tryz.prog 9 = some 1 := by kernel_rfl
theorem str_9 : Tryz.prog.underlying 9 = some .string := by kernel_rfl
theorem one_22 : oneT Tryz.prog 22 = true := by kernel_rfl
theorem sz_22 : sizeT Tryz.prog 22 = some 1 := by kernel_rfl
theorem int_22 : Tryz.prog.underlying 22 = some (.int .u64) := by kernel_rfl
theorem one_23 : oneT Tryz.prog 23 = true := by kernel_rfl
theorem sz_23 : sizeT Tryz.prog 23 = some 1 := by kernel_rfl
theorem sle_23 : Tryz.prog.underlying 23 = some (.slice (Tryz.prog.elem 23)) := by kernel_rfl
theorem esz_23 : sizeT Tryz.prog (Tryz.prog.elem 23) = some 8 := by kernel_rfl
theorem one_24 : oneT Tryz.prog 24 = true := by kernel_rfl
theorem sz_24 : sizeT Tryz.prog 24 = some 1 := by kernel_rfl
theorem sle_24 : Tryz.prog.underlying 24 = some (.slice (Tryz.prog.elem 24)) := by kernel_rfl
theorem esz_24 : sizeT Tryz.prog (Tryz.prog.elem 24) = some 7 := by kernel_rfl
theorem one_25 : oneT Tryz.prog 25 = true := by kernel_rfl
theorem sz_25 : sizeT Tryz.prog 25 = some 1 := by kernel_rfl
theorem sle_25 : Tryz.prog.underlying 25 = some (.slice (Tryz.prog.elem 25)) := by kernel_rfl
theorem esz_25 : sizeT Tryz.prog (Tryz.prog.elem 25) = some 14 := by kernel_rfl
theorem agg_27 : aggT Tryz.prog 27 = true := by kernel_rfl
theorem sz_27 : sizeT Tryz.prog 27 = some 7 := by kernel_rfl
theorem off_27_0 : foff Tryz.prog 27 0 = some 0 := by kernel_rfl
theorem off_27_1 : foff Tryz.prog 27 1 = some 1 := by kernel_rfl
theorem off_27_2 : foff Tryz.prog 27 2 = some 2 := by kernel_rfl
theorem off_27_3 : foff Tryz.prog 27 3 = some 3 := by kernel_rfl
theorem off_27_4 : foff Tryz.prog 27 4 = some 4 := by kernel_rfl
theorem off_27_5 : foff Tryz.prog 27 5 = some 5 := by kernel_rfl
theorem off_27_6 : foff Tryz.prog 27 6 = some 6 := by kernel_rfl
theorem pl_27 : placesT Tryz.prog 27 = some [(0, 1), (1, 1), (2, 1), (3, 1), (4, 1), (5, 1), (6, 1)] := by kernel_rfl
theorem zr_27 : zeroT Tryz.prog 27 = some [.int .i64 0, .int .u64 0, .string ⟨#[]⟩, .slice none 0 0, .string ⟨#[]⟩, .slice none 0 0, .slice none 0 0] := by kernel_rfl
theorem sl_29 : Tryz.prog.underlying 29 = some (.slice 62) := by kernel_rfl
theorem sle_29 : Tryz.prog.underlying 29 = some (.slice (Tryz.prog.elem 29)) := by kernel_rfl
theorem esz_29 : sizeT Tryz.prog (Tryz.prog.elem 29) = some 10 := by kernel_rfl
theorem ap_29 : (Tryz.prog.info? 62).map (fun i => (i.size, i.bytes, i.zero.map (·.cells.size))) = some (10, 144, some 10) := by kernel_rfl
theorem one_36 : oneT Tryz.prog 36 = true := by kernel_rfl
theorem sz_36 : sizeT Tryz.prog 36 = some 1 := by kernel_rfl
theorem sl_36 : Tryz.prog.underlying 36 = some (.slice 80) := by kernel_rfl
theorem sle_36 : Tryz.prog.underlying 36 = some (.slice (Tryz.prog.elem 36)) := by kernel_rfl
theorem esz_36 : sizeT Tryz.prog (Tryz.prog.elem 36) = some 8 := by kernel_rfl
theorem ap_36 : (Tryz.prog.info? 80).map (fun i => (i.size, i.bytes, i.zero.map (·.cells.size))) = some (8, 128, some 8) := by kernel_rfl
theorem one_37 : oneT Tryz.prog 37 = true := by kernel_rfl
theorem sz_37 : sizeT Tryz.prog 37 = some 1 := by kernel_rfl
theorem sl_37 : Tryz.prog.underlying 37 = some (.slice 40) := by kernel_rfl
theorem sle_37 : Tryz.prog.underlying 37 = some (.slice (Tryz.prog.elem 37)) := by kernel_rfl
theorem esz_37 : sizeT Tryz.prog (Tryz.prog.elem 37) = some 7 := by kernel_rfl
theorem ap_37 : (Tryz.prog.info? 40).map (fun i => (i.size, i.bytes, i.zero.map (·.cells.size))) = some (7, 120, some 7) := by kernel_rfl
theorem one_38 : oneT Tryz.prog 38 = true := by kernel_rfl
theorem sz_38 : sizeT Tryz.prog 38 = some 1 := by kernel_rfl
theorem sl_38 : Tryz.prog.underlying 38 = some (.slice 84) := by kernel_rfl
theorem sle_38 : Tryz.prog.underlying 38 = some (.slice (Tryz.prog.elem 38)) := by kernel_rfl
theorem esz_38 : sizeT Tryz.prog (Tryz.prog.elem 38) = some 14 := by kernel_rfl
theorem ap_38 : (Tryz.prog.info? 84).map (fun i => (i.size, i.bytes, i.zero.map (·.cells.size))) = some (14, 240, some 14) := by kernel_rfl
theorem agg_40 : aggT Tryz.prog 40 = true := by kernel_rfl
theorem sz_40 : sizeT Tryz.prog 40 = some 7 := by kernel_rfl
theorem off_40_0 : foff Tryz.prog 40 0 = some 0 := by kernel_rfl
theorem off_40_1 : foff Tryz.prog 40 1 = some 1 := by kernel_rfl
theorem off_40_2 : foff Tryz.prog 40 2 = some 2 := by kernel_rfl
theorem off_40_3 : foff Tryz.prog 40 3 = some 3 := by kernel_rfl
theorem off_40_4 : foff Tryz.prog 40 4 = some 4 := by kernel_rfl
theorem off_40_5 : foff Tryz.prog 40 5 = some 5 := by kernel_rfl
theorem off_40_6 : foff Tryz.prog 40 6 = some 6 := by kernel_rfl
theorem pl_40 : placesT Tryz.prog 40 = some [(0, 1), (1, 1), (2, 1), (3, 1), (4, 1), (5, 1), (6, 1)] := by kernel_rfl
theorem zr_40 : zeroT Tryz.prog 40 = some [.int .i64 0, .int .u64 0, .string ⟨#[]⟩, .slice none 0 0, .string ⟨#[]⟩, .slice none 0 0, .slice none 0 0] := by kernel_rfl
theorem sl_44 : Tryz.prog.underlying 44 = some (.slice 76) := by kernel_rfl
theorem sle_44 : Tryz.prog.underlying 44 = some (.slice (Tryz.prog.elem 44)) := by kernel_rfl
theorem esz_44 : sizeT Tryz.prog (Tryz.prog.elem 44) = some 10 := by kernel_rfl
theorem ap_44 : (Tryz.prog.info? 76).map (fun i => (i.size, i.bytes, i.zero.map (·.cells.size))) = some (10, 144, some 10) := by kernel_rfl
theorem one_56 : oneT Tryz.prog 56 = true := by kernel_rfl
noncomputable def ifcms_56 : Array (String × TypeId) := match Tryz.prog.underlying 56 with | some (.interface ms) => ms | _ => #[]
theorem ifc_56 : Tryz.prog.underlying 56 = some (.interface ifcms_56) := by kernel_rfl
theorem agg_62 : aggT Tryz.prog 62 = true := by kernel_rfl
theorem sz_62 : sizeT Tryz.prog 62 = some 10 := by kernel_rfl
theorem off_62_0 : foff Tryz.prog 62 0 = some 0 := by kernel_rfl
theorem off_62_1 : foff Tryz.prog 62 1 = some 1 := by kernel_rfl
theorem off_62_2 : foff Tryz.prog 62 2 = some 2 := by kernel_rfl
theorem off_62_3 : foff Tryz.prog 62 3 = some 3 := by kernel_rfl
theorem pl_62 : placesT Tryz.prog 62 = some [(0, 1), (1, 1), (2, 1), (3, 7)] := by kernel_rfl
theorem zr_62 : zeroT Tryz.prog 62 = some [.int .i64 0, .int .i64 0, .int .i64 0, .int .i64 0, .int .u64 0, .string ⟨#[]⟩, .slice none 0 0, .string ⟨#[]⟩, .slice none 0 0, .slice none 0 0] := by kernel_rfl
theorem agg_66 : aggT Tryz.prog 66 = true := by kernel_rfl
theorem sz_66 : sizeT Tryz.prog 66 = some 8 := by kernel_rfl
theorem off_66_0 : foff Tryz.prog 66 0 = some 0 := by kernel_rfl
theorem off_66_1 : foff Tryz.prog 66 1 = some 1 := by kernel_rfl
theorem zr_66 : zeroT Tryz.prog 66 = some [.int .i64 0, .int .i64 0, .int .u64 0, .string ⟨#[]⟩, .slice none 0 0, .string ⟨#[]⟩, .slice none 0 0, .slice none 0 0] := by kernel_rfl
theorem one_70 : oneT Tryz.prog 70 = true := by kernel_rfl
theorem agg_76 : aggT Tryz.prog 76 = true := by kernel_rfl
theorem sz_76 : sizeT Tryz.prog 76 = some 10 := by kernel_rfl
theorem off_76_0 : foff Tryz.prog 76 0 = some 0 := by kernel_rfl
theorem off_76_1 : foff Tryz.prog 76 1 = some 1 := by kernel_rfl
theorem off_76_2 : foff Tryz.prog 76 2 = some 2 := by kernel_rfl
theorem off_76_3 : foff Tryz.prog 76 3 = some 3 := by kernel_rfl
theorem pl_76 : placesT Tryz.prog 76 = some [(0, 1), (1, 1), (2, 1), (3, 7)] := by kernel_rfl
theorem zr_76 : zeroT Tryz.prog 76 = some [.int .i64 0, .int .i64 0, .int .i64 0, .int .i64 0, .int .u64 0, .string ⟨#[]⟩, .slice none 0 0, .string ⟨#[]⟩, .slice none 0 0, .slice none 0 0] := by kernel_rfl
theorem agg_80 : aggT Tryz.prog 80 = true := by kernel_rfl
theorem sz_80 : sizeT Tryz.prog 80 = some 8 := by kernel_rfl
theorem off_80_0 : foff Tryz.prog 80 0 = some 0 := by kernel_rfl
theorem off_80_1 : foff Tryz.prog 80 1 = some 1 := by kernel_rfl
theorem pl_80 : placesT Tryz.prog 80 = some [(0, 1), (1, 7)] := by kernel_rfl
theorem zr_80 : zeroT Tryz.prog 80 = some [.int .i64 0, .int .i64 0, .int .u64 0, .string ⟨#[]⟩, .slice none 0 0, .string ⟨#[]⟩, .slice none 0 0, .slice none 0 0] := by kernel_rfl
theorem agg_82 : aggT Tryz.prog 82 = true := by kernel_rfl
theorem sz_82 : sizeT Tryz.prog 82 = some 14 := by kernel_rfl
theorem off_82_0 : foff Tryz.prog 82 0 = some 0 := by kernel_rfl
theorem off_82_1 : foff Tryz.prog 82 1 = some 7 := by kernel_rfl
theorem zr_82 : zeroT Tryz.prog 82 = some [.int .i64 0, .int .u64 0, .string ⟨#[]⟩, .slice none 0 0, .string ⟨#[]⟩, .slice none 0 0, .slice none 0 0, .int .i64 0, .int .u64 0, .string ⟨#[]⟩, .slice none 0 0, .string ⟨#[]⟩, .slice none 0 0, .slice none 0 0] := by kernel_rfl
theorem agg_84 : aggT Tryz.prog 84 = true := by kernel_rfl
theorem sz_84 : sizeT Tryz.prog 84 = some 14 := by kernel_rfl
theorem off_84_0 : foff Tryz.prog 84 0 = some 0 := by kernel_rfl
theorem off_84_1 : foff Tryz.prog 84 1 = some 7 := by kernel_rfl
theorem pl_84 : placesT Tryz.prog 84 = some [(0, 7), (7, 7)] := by kernel_rfl
theorem zr_84 : zeroT Tryz.prog 84 = some [.int .i64 0, .int .u64 0, .string ⟨#[]⟩, .slice none 0 0, .string ⟨#[]⟩, .slice none 0 0, .slice none 0 0, .int .i64 0, .int .u64 0, .string ⟨#[]⟩, .slice none 0 0, .string ⟨#[]⟩, .slice none 0 0, .slice none 0 0] := by kernel_rfl
theorem sl_97 : Tryz.prog.underlying 97 = some (.slice 5) := by kernel_rfl
theorem ap_97 : (Tryz.prog.info? 5).map (fun i => (i.size, i.bytes, i.zero.map (·.cells.size))) = some (1, 1, some 1) := by kernel_rfl
theorem one_105 : oneT Tryz.prog 105 = true := by kernel_rfl
theorem int_131 : Tryz.prog.underlying 131 = some (.int .u64) := by kernel_rfl
theorem sz_145 : sizeT Tryz.prog 145 = some 256 := by kernel_rfl
theorem sl_156 : Tryz.prog.underlying 156 = some (.slice 3) := by kernel_rfl
theorem sle_156 : Tryz.prog.underlying 156 = some (.slice (Tryz.prog.elem 156)) := by kernel_rfl
theorem esz_156 : sizeT Tryz.prog (Tryz.prog.elem 156) = some 1 := by kernel_rfl
theorem mixed : Tryz.prog.follows .mixedOrders = true := by kernel_rfl
end Go.Proofs.YtagoikglbifhmaaGreatDoor
namespace Go.Proofs.YtagoikglbifhmaaGreatDoor
open Go.RowKit
theorem less_tcmp : ∀ a b : List UInt8, Op.bytesLess a b = decide (tcmp a b < 0)
  | [], [] => rfl
  | [], _ :: _ => rfl
  | _ :: _, [] => rfl
  | x :: a, y :: b => by
    rw [Op.bytesLess, tcmp, less_tcmp a b]
    by_cases h1 : x.toNat < y.toNat
    · have h1' : x < y := UInt8.lt_iff_toNat_lt.2 h1
      simp [h1, h1']
    · have h1' : ¬ x < y := fun h => h1 (UInt8.lt_iff_toNat_lt.1 h)
      by_cases h2 : y.toNat < x.toNat
      · have h3 : (x == y) = false := beq_eq_false_iff_ne.2 (fun e => by rw [e] at h2; omega)
        simp [h1, h1', h2, h3]
      · have h3 : x = y := UInt8.toNat_inj.1 (by omega)
        subst h3
        simp
section
variable {P : Program} {t : TypeId} {a b : List UInt8}
theorem v_slss : BinV P .lss t (.string (str a)) (.string (str b)) (.bool (decide (tcmp a b < 0))) := fun _ _ w => by
  simp only [eqGuard, binOp, Op.stringOp, str_toList, less_tcmp]
  rfl
theorem tcmp_gtr (a b : List UInt8) : (!(decide (tcmp a b < 0) || (a == b))) = decide (0 < tcmp a b) := by
  rw [list_beq]
  rcases tcmp_in a b with h | h | h
  · rw [h]; rfl
  · rw [h, tcmp_zero h]; simp
  · have hne : ¬ a = b := fun e => by rw [e] at h; have := tcmp_neg b b; omega
    rw [h, decide_eq_false hne]
    rfl
theorem v_sgtr : BinV P .gtr t (.string (str a)) (.string (str b)) (.bool (decide (0 < tcmp a b))) := fun _ _ w => by
  simp only [eqGuard, binOp, Op.stringOp, str_toList, less_tcmp, tcmp_gtr]
  rfl
end
theorem s_convk {P : Program} {cx : Cx} {T : TL} {B : BL} {R : RL} {o : Oper} {x : Operand} {src dst : TypeId} {k k' : IntKind} {n z : Int} (ho : o.op = .convert src dst x) (hx : Kn T x (.is (.int k n))) (hs : (P.underlying src).isSome = true) (hd : P.underlying dst = some (.int k')) (hi : P.intKind dst = k') (hz : k'.wrap n = z) : LStep P cx B R o T (.is (.int k' z)) := LStep.same fun M V w a _ hk => by
  have h1 := (hk x _ (by simp [ho, Op.operands]) hx).is_eq
  subst hi hz
  exact ⟨_, by simp [execOp, ho, h1, run_convert_int w src dst k n hs hd], .cell _⟩
theorem wrap_u64 (z : Int) (h1 : 0 ≤ z) (h2 : z ≤ 18446744073709551615) : IntKind.u64.wrap z = z := by
  simp only [IntKind.wrap, IntKind.bits, IntKind.signed]
  simp
  omega
end Go.Proofs.YtagoikglbifhmaaGreatDoor
namespace Go.Proofs.YtagoikglbifhmaaGreatDoor
open Go.RowKit
theorem flat_get {α : Type} {f : α → List Dat} {k : Nat} (hk : ∀ a, (f a).length = k) {qs : List α} {i r : Nat} {a : α} (ha : qs[i]? = some a) (hr : r < k) : (qs.flatMap f)[i * k + r]? = (f a)[r]? := by
  have h := flat_part hk qs i a ha
  rw [← h, List.getElem?_take, if_pos hr, List.getElem?_drop]
def Old (w : World) : Nat → Prop := fun g => g < w.heap.size
section
variable {H : Type} {enc : TypeId × Value → H} {P : Program} {w : World} {base : Nat} {spare : Nat → Bool} {held : Bool} {fuel : Nat} {t : TypeId} {cs : List Value} {x : DataW H × List MemPlace}
theorem open_row {e : TypeId} (ht : P.underlying t = some (.slice e)) {k : Nat} (hk0 : 0 < k) (hke : P.cellsOf e = k) {α : Type} [Inhabited α] {f : α → List Dat} (hk : ∀ a, (f a).length = k) {F : α → Prop}
    (elem : ∀ n, n < fuel → ∀ cs x, DataW.trod enc P w base spare held n e cs = some x → ∃ a, Fits w (Old w) (f a) cs ∧ F a) (h : DataW.trod enc P w base spare held fuel t cs = some x) :
    ∃ p, ∃ qs : List α, ∃ c, cs = [.slice p qs.length c] ∧ Lies w (Old w) (.row k qs.length (qs.flatMap f)) (.slice p qs.length c) ∧ (∀ a ∈ qs, F a) ∧ qs.length ≤ c ∧ c ≤ maxLen := by
  rcases DataW.trod_slice ht h with ⟨rfl, _⟩ | ⟨ad, len, cap, elems, rest, n, rfl, rfl, _, hb, hl, hm, hlen, hel, _, _⟩
  · exact ⟨none, [], 0, rfl, .none _ _ _, by simp, by simp, by simp⟩
  · rw [hke] at hel
    have hone : ∀ i, i < len → ∃ y : α × List Value, Fits w (Old w) (f y.1) y.2 ∧ F y.1 ∧ ∀ j, j < k → w.cell? (ad.add (i * k + j)) = y.2[j]? := fun i hi => by
      have key := hel i hi
      rw [List.getElem?_eq_getElem (by omega)] at key
      obtain ⟨cs', h1, h2⟩ := Option.bind_eq_some_iff.1 key
      obtain ⟨a, hF, hA⟩ := elem n (by omega) cs' _ h2
      obtain ⟨_, _, hat⟩ := World.cells?_some h1
      exact ⟨(a, cs'), hF, hA, fun j hj => by rw [← Go.Deep.add_add]; exact hat j hj⟩
    obtain ⟨Y, hY⟩ := Go.Deep.choose_lt (α := α × List Value) (p := fun i y => Fits w (Old w) (f y.1) y.2 ∧ F y.1 ∧ ∀ j, j < k → w.cell? (ad.add (i * k + j)) = y.2[j]?) hone
    have hlen' : ((List.range len).map fun i => (Y i).1).length = len := by simp
    have hget : ∀ i, i < len → ((List.range len).map fun i => (Y i).1)[i]? = some (Y i).1 := fun i hi => by rw [List.getElem?_map, List.getElem?_range hi]; rfl
    refine ⟨some ad, (List.range len).map fun i => (Y i).1, cap, by rw [hlen'], ?_, fun a ha => ?_, by omega, hm⟩
    · rw [hlen']
      rcases Nat.eq_zero_or_pos len with h0 | h0
      · subst h0
        exact .none _ _ _
      obtain ⟨b, o, s⟩ := ad
      have hcell : ∀ i, i < len → ∀ j, j < k → ∃ v, (Y i).2[j]? = some v := fun i hi j hj => by
        have hl' := (hY i hi).1.1
        rw [hk] at hl'
        exact ⟨_, List.getElem?_eq_getElem (by omega)⟩
      obtain rfl : s = none := by
        obtain ⟨v, hv⟩ := hcell 0 h0 0 hk0
        have := (hY 0 h0).2.2 0 hk0
        rw [hv] at this
        simpa [Addr.add] using World.cell?_spot this
      have hb' : b < w.heap.size := by
        obtain ⟨v, hv⟩ := hcell 0 h0 0 hk0
        have := (hY 0 h0).2.2 0 hk0
        rw [hv] at this
        have := World.block_lt_of_cell? _ _ this
        simpa [Addr.add_lit] using this
      have hfl : ((((List.range len).map fun i => (Y i).1)).flatMap f).length = len * k := by rw [flat_len hk, hlen']
      refine .row k len b o cap _ (fun j => ((Y (j / k)).2[j % k]?).getD default) h0 (by omega) hfl hb' (fun j hj => ?_) fun j d hd => ?_
      · rw [hfl] at hj
        have hi : j / k < len := Nat.div_lt_of_lt_mul (by rw [Nat.mul_comm]; exact hj)
        have hr : j % k < k := Nat.mod_lt _ hk0
        obtain ⟨v, hv⟩ := hcell _ hi _ hr
        have := (hY _ hi).2.2 _ hr
        rw [Addr.add_lit, Nat.div_add_mod' j k] at this
        rw [this, hv]
        rfl
      · have hj : j < len * k := by rw [← hfl]; exact (List.getElem?_eq_some_iff.1 hd).1
        have hi : j / k < len := Nat.div_lt_of_lt_mul (by rw [Nat.mul_comm]; exact hj)
        have hr : j % k < k := Nat.mod_lt _ hk0
        obtain ⟨v, hv⟩ := hcell _ hi _ hr
        rw [← Nat.div_add_mod' j k, flat_get hk (hget _ hi) hr] at hd
        show Lies w (Old w) d (((Y (j / k)).2[j % k]?).getD default)
        rw [hv]
        exact (hY _ hi).1.2 _ d v hd hv
    · obtain ⟨i, hi, rfl⟩ := List.mem_map.1 ha
      exact (hY i (by simpa using hi)).2.1
end
end Go.Proofs.YtagoikglbifhmaaGreatDoor
namespace Go.Proofs.YtagoikglbifhmaaGreatDoor
open Go.RowKit
mutual
def Vl.dats : Vl → List Dat
  | .mk k n t fs r ls ps => [.cell (.int .i64 k), .cell (.int .u64 (n : Int)), .cell (.string (str t)), .row 8 fs.length (fdats fs), .cell (.string (str r)), .row 7 ls.length (ldats ls), .row 14 ps.length (pdats ps)]
def fdats : List (Int × Vl) → List Dat
  | [] => []
  | (n, x) :: fs => (.cell (.int .i64 n) :: x.dats) ++ fdats fs
def ldats : List Vl → List Dat
  | [] => []
  | x :: ls => x.dats ++ ldats ls
def pdats : List (Vl × Vl) → List Dat
  | [] => []
  | (k, x) :: ps => (k.dats ++ x.dats) ++ pdats ps
end
def fieldDats (f : Int × Vl) : List Dat := .cell (.int .i64 f.1) :: f.2.dats
def pairDats (p : Vl × Vl) : List Dat := p.1.dats ++ p.2.dats
theorem fdats_eq : ∀ fs : List (Int × Vl), fdats fs = fs.flatMap fieldDats
  | [] => by simp [fdats]
  | (n, x) :: fs => by rw [fdats, fdats_eq fs, List.flatMap_cons]; rfl
theorem ldats_eq : ∀ ls : List Vl, ldats ls = ls.flatMap Vl.dats
  | [] => by simp [ldats]
  | x :: ls => by rw [ldats, ldats_eq ls, List.flatMap_cons]
theorem pdats_eq : ∀ ps : List (Vl × Vl), pdats ps = ps.flatMap pairDats
  | [] => by simp [pdats]
  | (k, x) :: ps => by rw [pdats, pdats_eq ps, List.flatMap_cons]; rfl
theorem Vl.dats_eq (v : Vl) : v.dats = [.cell (.int .i64 v.kind), .cell (.int .u64 (v.num : Int)), .cell (.string (str v.text)), .row 8 v.fields.length (v.fields.flatMap fieldDats), .cell (.string (str v.rest)), .row 7 v.list.length (v.list.flatMap Vl.dats), .row 14 v.pairs.length (v.pairs.flatMap pairDats)] := by
  cases v
  rw [Vl.dats, fdats_eq, ldats_eq, pdats_eq]
  rfl
theorem Vl.dats_len (v : Vl) : v.dats.length = 7 := by rw [v.dats_eq]; rfl
theorem fieldDats_len (f : Int × Vl) : (fieldDats f).length = 8 := by unfold fieldDats; rw [List.length_cons, Vl.dats_len]
theorem pairDats_len (p : Vl × Vl) : (pairDats p).length = 14 := by unfold pairDats; rw [List.length_append, Vl.dats_len, Vl.dats_len]
def vcells (v : Vl) (f l p : Value) : List Value := [.int .i64 v.kind, .int .u64 (v.num : Int), .string (str v.text), f, .string (str v.rest), l, p]
structure Vin (w : World) (D : Nat → Prop) (v : Vl) (pf : Option Addr) (cf : Nat) (pl : Option Addr) (cl : Nat) (pp : Option Addr) (cp : Nat) : Prop where
  fields : RowD w D 8 pf fieldDats v.fields
  list : RowD w D 7 pl Vl.dats v.list
  pairs : RowD w D 14 pp pairDats v.pairs
theorem Fits.seven {w : World} {D : Nat → Prop} {a b c d e f g : Dat} {xs : List Value} (h : Fits w D [a, b, c, d, e, f, g] xs) :
    ∃ x0 x1 x2 x3 x4 x5 x6, xs = [x0, x1, x2, x3, x4, x5, x6] ∧ Lies w D a x0 ∧ Lies w D b x1 ∧ Lies w D c x2 ∧ Lies w D d x3 ∧ Lies w D e x4 ∧ Lies w D f x5 ∧ Lies w D g x6 := by
  obtain ⟨x0, y0, rfl, h0, k0⟩ := Fits.head h
  obtain ⟨x1, y1, rfl, h1, k1⟩ := Fits.head k0
  obtain ⟨x2, y2, rfl, h2, k2⟩ := Fits.head k1
  obtain ⟨x3, y3, rfl, h3, k3⟩ := Fits.head k2
  obtain ⟨x4, y4, rfl, h4, k4⟩ := Fits.head k3
  obtain ⟨x5, y5, rfl, h5, k5⟩ := Fits.head k4
  obtain ⟨x6, y6, rfl, h6, k6⟩ := Fits.head k5
  obtain rfl : y6 = [] := List.eq_nil_of_length_eq_zero k6.1.symm
  exact ⟨x0, x1, x2, x3, x4, x5, x6, rfl, h0, h1, h2, h3, h4, h5, h6⟩
theorem Vl.lies {w : World} {D : Nat → Prop} {v : Vl} {f l p : Value} (h : Fits w D v.dats (vcells v f l p)) : Lies w D (.row 8 v.fields.length (v.fields.flatMap fieldDats)) f ∧ Lies w D (.row 7 v.list.length (v.list.flatMap Vl.dats)) l ∧ Lies w D (.row 14 v.pairs.length (v.pairs.flatMap pairDats)) p := by
  rw [v.dats_eq] at h
  obtain ⟨x0, x1, x2, x3, x4, x5, x6, e, h0, h1, h2, h3, h4, h5, h6⟩ := Fits.seven h
  simp only [vcells, List.cons.injEq, and_true] at e
  obtain ⟨_, _, _, rfl, _, rfl, rfl⟩ := e
  exact ⟨h3, h5, h6⟩
theorem Vl.shut {w : World} {D : Nat → Prop} {v : Vl} {f l p : Value} (hf : Lies w D (.row 8 v.fields.length (v.fields.flatMap fieldDats)) f) (hl : Lies w D (.row 7 v.list.length (v.list.flatMap Vl.dats)) l) (hp : Lies w D (.row 14 v.pairs.length (v.pairs.flatMap pairDats)) p) : Fits w D v.dats (vcells v f l p) := by
  rw [v.dats_eq]
  exact .cons (.cell _) (.cons (.cell _) (.cons (.cell _) (.cons hf (.cons (.cell _) (.cons hl (.cons hp (.nil _ _)))))))
theorem Vin.stay {w w' : World} {D : Nat → Prop} {v : Vl} {pf : Option Addr} {cf : Nat} {pl : Option Addr} {cl : Nat} {pp : Option Addr} {cp : Nat} (h : Vin w D v pf cf pl cl pp cp) (hk : Keeps D w w') : Vin w' D v pf cf pl cl pp cp := ⟨h.fields.stay hk, h.list.stay hk, h.pairs.stay hk⟩
theorem Fits.split {w : World} {D : Nat → Prop} {ds es : List Dat} {xs : List Value} (h : Fits w D (ds ++ es) xs) : ∃ ys zs, xs = ys ++ zs ∧ Fits w D ds ys ∧ Fits w D es zs := by
  have hl := h.1
  rw [List.length_append] at hl
  refine ⟨xs.take ds.length, xs.drop ds.length, (List.take_append_drop _ _).symm, ?_, ?_⟩
  · have := h.part 0 ds.length
    simpa using this
  · have := h.part ds.length es.length
    rw [List.drop_left, List.take_length] at this
    rwa [List.take_of_length_le (by rw [List.length_drop]; omega)] at this
inductive Vl.Fine : Vl → Prop where
  | mk (v : Vl) : -9223372036854775808 ≤ v.kind → v.kind < 9223372036854775808 → v.num < 18446744073709551616 → v.text.length ≤ maxLen → v.rest.length ≤ maxLen → v.fields.length ≤ maxLen → v.list.length ≤ maxLen → v.pairs.length ≤ maxLen →
    (∀ f ∈ v.fields, -9223372036854775808 ≤ f.1 ∧ f.1 < 9223372036854775808) → (∀ f ∈ v.fields, Fine f.2) → (∀ x ∈ v.list, Fine x) → (∀ p ∈ v.pairs, Fine p.1) → (∀ p ∈ v.pairs, Fine p.2) → Fine v
theorem Vl.Fine.bounds {v : Vl} (h : v.Fine) : v.num < 18446744073709551616 ∧ v.text.length ≤ maxLen ∧ v.rest.length ≤ maxLen ∧ v.fields.length ≤ maxLen ∧ v.list.length ≤ maxLen ∧ v.pairs.length ≤ maxLen ∧ -9223372036854775808 ≤ v.kind ∧ v.kind < 9223372036854775808 := by
  cases h
  exact ⟨‹_›, ‹_›, ‹_›, ‹_›, ‹_›, ‹_›, ‹_›, ‹_›⟩
theorem Vl.Fine.field {v : Vl} (h : v.Fine) {f : Int × Vl} (hf : f ∈ v.fields) : (-9223372036854775808 ≤ f.1 ∧ f.1 < 9223372036854775808) ∧ f.2.Fine := by
  cases h with
  | mk v a b c d e f g h i j k l m => exact ⟨i _ hf, j _ hf⟩
theorem Vl.Fine.elem {v : Vl} (h : v.Fine) {x : Vl} (hx : x ∈ v.list) : x.Fine := by
  cases h with
  | mk v a b c d e f g h i j k l m => exact k _ hx
theorem Vl.Fine.pair {v : Vl} (h : v.Fine) {p : Vl × Vl} (hp : p ∈ v.pairs) : p.1.Fine ∧ p.2.Fine := by
  cases h with
  | mk v a b c d e f g h i j k l m => exact ⟨l _ hp, m _ hp⟩
end Go.Proofs.YtagoikglbifhmaaGreatDoor
