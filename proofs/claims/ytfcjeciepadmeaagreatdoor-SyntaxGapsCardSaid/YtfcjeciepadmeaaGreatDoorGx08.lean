/- Part 8 of what the last text of this claim is proved by: walks over the program, and the math behind them. Conditions: as each theorem says. -/
import Derived.Test.YtfcjeciepadmeaaGreatDoorGx07
import Derived.Laws.Build
import Derived.Laws.Strings2
import Derived.Test.YtfcjeciepadmeaaGreatDoorProg
import Derived.Laws.StructEq
namespace Go.Proofs.YtfcjeciepadmeaaGreatDoor
open Go.RowKit
section
variable {P : Program} {cx : Cx} {T : TL} {B : BL} {R : RL} {o : Oper}
abbrev IV.str (l : List UInt8) : IV := .is (.string (Go.Proofs.YtfcjeciepadmeaaGreatDoor.str l))
section
variable {t : TypeId} {a b : List UInt8}
theorem v_sadd (h : a.length + b.length ≤ 9223372036854775807) : BinV P .add t (.string (str a)) (.string (str b)) (.string (str (a ++ b))) := fun _ _ w => by
  have h1 : ¬ (9223372036854775807 < ((str a).size + (str b).size)) := by rw [strSize, strSize]; omega
  have h2 : ¬ ((((str a).size + (str b).size : Nat) : Int) > IntKind.i64.max) := by
    have : IntKind.i64.max = 9223372036854775807 := by decide
    rw [this]
    omega
  simp only [eqGuard, binOp, Op.stringOp]
  rw [if_neg h2, str_append]
  rfl
theorem list_beq (a b : List UInt8) : (a == b) = decide (a = b) := by
  by_cases h : a = b
  · subst h
    simp
  · rw [decide_eq_false h]
    simpa using h
theorem v_seql : BinV P .eql t (.string (str a)) (.string (str b)) (.bool (decide (a = b))) := fun _ _ w => by
  simp only [eqGuard, binOp, Op.stringOp, str_toList, list_beq]
  rfl
theorem v_sneq : BinV P .neq t (.string (str a)) (.string (str b)) (.bool (!decide (a = b))) := fun _ _ w => by
  simp only [eqGuard, binOp, Op.stringOp, str_toList, list_beq]
  rfl
end
theorem s_slen {x : Operand} {t : TypeId} {l : List UInt8} (ho : o.op = .call { callee := .builtin .len, args := #[x], argTypes := #[t] }) (hx : Kn T x (.is (.string (str l)))) (ht : P.underlying t = some .string) :
    LStep P cx B R o T (.is (.int .i64 (l.length : Int))) := LStep.same fun M V w a _ hk => by
  have h1 := (hk x _ (by simp [ho, Op.operands, Call.operands]) hx).is_eq
  exact ⟨_, by simp [execOp, ho, h1, resolve, invoke, builtin, run_len_string w t _ (str l) ht, goInt, strSize], .cell _⟩
theorem s_iface {x : Operand} {t : TypeId} {d : Dat} (ho : o.op = .makeInterface t x) (hx : Kn T x (.part (.one d))) (ht : P.concrete t = true) : LStep P cx B R o T (.part (.one (.ifc t d))) := LStep.same fun M V w a _ hk => by
  have h1 : Lies _ _ d (a.eval x) := hk x _ (by simp [ho, Op.operands]) hx
  exact ⟨_, by simp [execOp, ho, run_makeInterface w t (a.eval x) ht], .ifc t d _ h1⟩
theorem run_equalIn_iface (n : Nat) (w : World) {t : TypeId} {ms : Array (String × TypeId)} (ht : P.underlying t = some (.interface ms)) (s : TypeId) (u : Value) : (Op.equalIn (n + 1) t (.iface s u) .nilIface).run P w = .ok false w := by
  rw [Op.equalIn, Sem.run_bind, run_underlying ht]
  rfl
theorem run_equalIn_nil (n : Nat) (w : World) {t : TypeId} {ms : Array (String × TypeId)} (ht : P.underlying t = some (.interface ms)) : (Op.equalIn (n + 1) t .nilIface .nilIface).run P w = .ok true w := by
  rw [Op.equalIn, Sem.run_bind, run_underlying ht]
  rfl
theorem run_equal_iface (w : World) {t : TypeId} {ms : Array (String × TypeId)} (ht : P.underlying t = some (.interface ms)) (s : TypeId) (u : Value) : (Op.equal t (.iface s u) .nilIface).run P w = .ok false w := run_equalIn_iface 9999 w ht s u
theorem run_equal_nil (w : World) {t : TypeId} {ms : Array (String × TypeId)} (ht : P.underlying t = some (.interface ms)) : (Op.equal t .nilIface .nilIface).run P w = .ok true w := run_equalIn_nil 9999 w ht
def Dat.iface? : Dat → Bool
  | .ifc _ _ => true
  | .cell (.iface _ _) => true
  | _ => false
theorem Lies.iface {w : World} {D : Nat → Prop} {d : Dat} {v : Value} (h : Lies w D d v) (hd : d.iface? = true) : ∃ s u, v = .iface s u := by
  cases h with
  | ifc t d v _ => exact ⟨t, v, rfl⟩
  | cell v =>
    cases v <;> first | exact ⟨_, _, rfl⟩ | cases hd
  | none => cases hd
  | row => cases hd
  | ptr => cases hd
theorem s_err_neq {x : Operand} {t t' : TypeId} {ms : Array (String × TypeId)} {d : Dat} (ho : o.op = .binOp .neq t x (.const .nilIface) t') (hx : Kn T x (.part (.one d))) (hd : d.iface? = true) (ht : P.underlying t = some (.interface ms)) : LStep P cx B R o T (.is (.bool true)) := LStep.same fun M V w a _ hk => by
  obtain ⟨s, u, h1⟩ := Lies.iface (hk x _ (by simp [ho, Op.operands]) hx) hd
  have h2 : a.eval (.const .nilIface) = .nilIface := rfl
  exact ⟨_, by simp [execOp, ho, h1, h2, eqGuard, binOp, run_equal_iface w ht], .cell _⟩
theorem s_err_eql {x : Operand} {t t' : TypeId} {ms : Array (String × TypeId)} {d : Dat} (ho : o.op = .binOp .eql t x (.const .nilIface) t') (hx : Kn T x (.part (.one d))) (hd : d.iface? = true) (ht : P.underlying t = some (.interface ms)) : LStep P cx B R o T (.is (.bool false)) := LStep.same fun M V w a _ hk => by
  obtain ⟨s, u, h1⟩ := Lies.iface (hk x _ (by simp [ho, Op.operands]) hx) hd
  have h2 : a.eval (.const .nilIface) = .nilIface := rfl
  exact ⟨_, by simp [execOp, ho, h1, h2, eqGuard, binOp, run_equal_iface w ht], .cell _⟩
theorem s_nil_neq {x : Operand} {t t' : TypeId} {ms : Array (String × TypeId)} (ho : o.op = .binOp .neq t x (.const .nilIface) t') (hx : Kn T x (.is .nilIface)) (ht : P.underlying t = some (.interface ms)) : LStep P cx B R o T (.is (.bool false)) := LStep.same fun M V w a _ hk => by
  have h1 := (hk x _ (by simp [ho, Op.operands]) hx).is_eq
  have h2 : a.eval (.const .nilIface) = .nilIface := rfl
  have hg := eqGuard_nil_constR (op := .neq) (t := t) (x := x) .nilIface
  exact ⟨_, by simp [execOp, ho, h1, h2, hg, binOp, run_equal_nil w ht], .cell _⟩
theorem s_nil_eql {x : Operand} {t t' : TypeId} {ms : Array (String × TypeId)} (ho : o.op = .binOp .eql t x (.const .nilIface) t') (hx : Kn T x (.is .nilIface)) (ht : P.underlying t = some (.interface ms)) : LStep P cx B R o T (.is (.bool true)) := LStep.same fun M V w a _ hk => by
  have h1 := (hk x _ (by simp [ho, Op.operands]) hx).is_eq
  have h2 : a.eval (.const .nilIface) = .nilIface := rfl
  have hg := eqGuard_nil_constR (op := .eql) (t := t) (x := x) .nilIface
  exact ⟨_, by simp [execOp, ho, h1, h2, hg, binOp, run_equal_nil w ht], .cell _⟩
def Cap.iv : Cap → IV
  | .box b j => .box b j
  | .val v => .is v
def KnC (T : TL) : List Operand → List Cap → Prop
  | [], [] => True
  | x :: l, c :: m => Kn T x c.iv ∧ KnC T l m
  | _, _ => False
theorem Cap.iv_eq {w : World} {D : Nat → Prop} {M : Nat → Nat} {V : Nat → Value} {c : Cap} {v : Value} (h : VR w D M V c.iv v) : v = capV M c := by
  cases c with
  | box b j => exact h
  | val u => exact h.is_eq
theorem KnC.eq {w : World} {D : Nat → Prop} {M : Nat → Nat} {V : Nat → Value} {a : Act} : ∀ {l : List Operand} {m : List Cap}, KnC T l m → (∀ x z, x ∈ l → Kn T x z → VR w D M V z (a.eval x)) → l.map a.eval = m.map (capV M)
  | [], [], _, _ => rfl
  | x :: l, c :: m, h, hk => by
    rw [List.map_cons, List.map_cons, Cap.iv_eq (hk x _ List.mem_cons_self h.1), KnC.eq h.2 fun y z hy => hk y z (List.mem_cons_of_mem _ hy)]
  | [], _ :: _, h, _ => h.elim
  | _ :: _, [], h, _ => h.elim
theorem s_func {fn : Fn} {xs ys : List Operand} {fs cs : List Cap} (ho : o.op = .makeFunc fn xs.toArray ys.toArray) (hx : KnC T xs fs) (hy : KnC T ys cs) : LStep P cx B R o T (.clo fn fs cs) := LStep.same fun M V w a _ hk => by
  have h1 := hx.eq fun x z hm hkx => hk x z (by simp [ho, Op.operands]; exact .inl hm) hkx
  have h2 := hy.eq fun x z hm hkx => hk x z (by simp [ho, Op.operands]; exact .inr hm) hkx
  refine ⟨_, ?_, rfl⟩
  unfold execOp
  simp only [ho, List.map_toArray]
  simp only [Instr.makeFunc, h1, h2]
  rfl
theorem caps_VRs {w : World} {D : Nat → Prop} {M : Nat → Nat} {V : Nat → Value} : ∀ cs : List Cap, VRs w D M V (cs.map Cap.iv) (cs.map (capV M))
  | [] => trivial
  | .box _ _ :: cs => ⟨rfl, caps_VRs cs⟩
  | .val v :: cs => ⟨Lies.cell v, caps_VRs cs⟩
theorem VRs.append {w : World} {D : Nat → Prop} {M : Nat → Nat} {V : Nat → Value} : ∀ {xs ys : List IV} {us vs : List Value}, VRs w D M V xs us → VRs w D M V ys vs → VRs w D M V (xs ++ ys) (us ++ vs)
  | [], _, [], _, _, h => h
  | _ :: _, _, _ :: _, _, h1, h2 => ⟨h1.1, VRs.append h1.2 h2⟩
  | [], _, _ :: _, _, h, _ => h.elim
  | _ :: _, _, [], _, h, _ => h.elim
theorem e_callc {ops : Array Oper} {Q : Exit → Act → World → Prop} {l : List Oper} {d : Nat} {f : FuncId} {x : Operand} {xs : List Operand} {ts : Array TypeId} {fs cs : List Cap} {zs ys : List IV} (ρ σ : Nat → Nat) {B0 : BL} {R0 : RL} {Y : IV → BL → RL → Prop} (hg : o.guard = none) (hd : o.dst = some d) (hn : Nat.blt d cx.n = true) (ho : o.op = .call { callee := .value x, args := xs.toArray, argTypes := ts }) (hc : callable P f = true) (hL : Lent B R ρ σ B0 R0)
    (hx : Kn T x (.clo (.func f) fs cs)) (hxs : KnX T xs zs) (hys : ys.map (·.ren ρ σ) = fs.map Cap.iv ++ zs ++ cs.map Cap.iv) (hf : EG P cx.gl f ys B0 R0 Y)
    (hY : ∀ y B1 R1, Y y B1 R1 → names B1 = names B0 ∧ names R1 = names R0 ∧ binB (names B0) (names R0) B1 = true ∧ y.bin (names B0) (names R0) = true)
    (hE : ∀ y B1 R1, Y y B1 R1 → E cx ((d, y.ren ρ σ) :: killTL ((names R0).map σ) T) (renB ρ σ B1 ++ killBL ((names R0).map σ) B) (renR σ R1 ++ R) (wpList P ops Q l)) : E cx T B R (wpList P ops Q (o :: l)) := fun M V a w hr => by
  refine wpList_plain hg fun K hK => ?_
  have h1 : a.eval x = .func (.func f) (fs.map (capV M)).toArray (cs.map (capV M)).toArray := hx w (Dc cx B R M V w) M V a fun t z _ hz => hr.tmp t z hz
  have hrun : (execOp a.eval o).run P w = .ok (.enter f (fs.map (capV M) ++ xs.map a.eval ++ cs.map (capV M)).toArray) w := by
    simp [execOp, ho, resolve, h1, Deferred.ofValue, invoke, run_callable hc]
  have hv : VRs w (Dc cx B R M V w) M V (ys.map (·.ren ρ σ)) (fs.map (capV M) ++ xs.map a.eval ++ cs.map (capV M)) := by
    rw [hys]
    exact ((caps_VRs fs).append (hxs.vrs fun t z hz => hr.tmp t z hz)).append (caps_VRs cs)
  unfold Oper.wp
  rw [hrun]
  simp only [Oper.upon, hd]
  exact (calls_back hr hL hv hf hY (blt_lt hn)).mono fun e w' ⟨v, y, B1, R1, V', h1, h2, h3⟩ => by
    subst h1
    exact hK _ _ (hE y B1 R1 h2 M V' _ _ h3)
theorem e_guard {ops : Array Oper} {Q : Exit → Act → World → Prop} {l : List Oper} {d : Nat} {g : Bool} (hg : gk ops T o = some g) (hd : o.dst = some d) (hn : Nat.blt d cx.n = true) (h1 : g = true → E cx T B R (wpList P ops Q ({ o with guard := none } :: l))) (h0 : g = false → E cx ((d, .is undef) :: T) B R (wpList P ops Q l)) : E cx T B R (wpList P ops Q (o :: l)) := fun M V a w hr => by
  have hw := gk_wanted hg fun t z v _ hz hv => whole_of hv (hr.tmp t z hz)
  cases g with
  | false =>
    refine wpList_step fun K hK => ?_
    rw [hw, if_neg (by simp)]
    refine hK _ _ (h0 rfl M V _ w ?_)
    rw [hd]
    exact hr.put (Below.refl _ _) (blt_lt hn) (Lies.cell undef)
  | true =>
    have h2 := h1 rfl M V a w hr
    unfold wpList at h2 ⊢
    rw [if_pos (by simp [Region.wanted])] at h2
    rw [if_pos hw]
    exact h2
theorem e_boxi {ops : Array Oper} {Q : Exit → Act → World → Prop} {l : List Oper} {d : Nat} {ty : TypeId} {x : Operand} {y : IV} (b : Nat) (hg : o.guard = none) (hd : o.dst = some d) (hn : Nat.blt d cx.n = true) (ho : o.op = .box ty x) (hx : Kn T x y) (h1 : y.isOne = true)
    (hpn : cx.pn.all (fun c => !Nat.beq c b) = true) (hT : nobT b T = true) (hB : nobB b B = true) (hy : y.nob b = true) (hE : E cx ((d, .box b 0) :: T) ((b, ⟨ty, [y]⟩) :: B) R (wpList P ops Q l)) : E cx T B R (wpList P ops Q (o :: l)) := fun M V a w hr => by
  refine wpList_plain hg fun K hK => ?_
  have hv := hx w (Dc cx B R M V w) M V a fun t z _ hz => hr.tmp t z hz
  have hone := hv.one h1
  have hcl : (a.eval x).cells = #[a.eval x] := by
    revert hone
    generalize a.eval x = v
    intro h
    cases v <;> first | rfl | cases h
  have hc : CFit w (Dc cx B R M V w) M V [y] [a.eval x] := ⟨rfl, fun j z v hz hvv => by
    cases j with
    | zero =>
      simp at hz hvv
      subst hz
      subst hvv
      exact ⟨hv, hone⟩
    | succ j => simp at hz⟩
  obtain ⟨M', hr'⟩ := hr.alloc b ty hpn hT hB (by simp [hy]) hc (d := d) (blt_lt hn)
  have := hK _ _ (hE M' V _ _ hr')
  unfold Oper.wp execOp
  simp only [ho, Sem.run_bind]
  simp [Instr.box, newVar, newRow, hcl, Oper.upon, hd]
  exact this
def remB (b : Nat) : BL → BL
  | [] => []
  | (c, x) :: l => bif Nat.beq c b then remB b l else (c, x) :: remB b l
theorem remB_get {b c : Nat} {x : Bx} : ∀ {B : BL}, lk c (remB b B) = some x → c ≠ b ∧ lk c B = some x
  | [], h => by cases h
  | (e, y) :: l, h => by
    simp only [remB] at h
    cases hb : Nat.beq e b with
    | true =>
      rw [hb] at h
      obtain ⟨h1, h2⟩ := remB_get (B := l) h
      have := Nat.eq_of_beq_eq_true hb
      exact ⟨h1, (lk_cons_ne _ _ (by rw [this]; exact Ne.symm h1)).trans h2⟩
    | false =>
      rw [hb] at h
      rcases lk_cons h with ⟨rfl, rfl⟩ | ⟨hne, h⟩
      · exact ⟨fun e => by subst e; simp at hb, lk_cons_eq _ _ _⟩
      · obtain ⟨h1, h2⟩ := remB_get (B := l) h
        exact ⟨h1, (lk_cons_ne _ _ hne).trans h2⟩
theorem e_data {K : Act → World → Prop} (t b : Nat) {bx : Bx} {ds : List Dat} (hx : lk t T = some (.box b 0)) (hb : lk b B = some bx) (hm : manyOf bx.cs = some ds) (h : E cx ((t, .part (.one (.ptr bx.ty ds))) :: T) (remB b B) R K) : E cx T B R K := fun M V a w hr => by
  have hh := hr.heap
  have hk := Keeps.refl (Dc cx B R M V w) w
  have hD : ∀ g, Dc cx B R M V w g → Dc cx (remB b B) R M V w g := fun g hg => by
    rcases hg with hg | ⟨a1, a2, a3, a4⟩
    · exact .inl hg
    · exact .inr ⟨a1, a2, fun c x hx => a3 c x (remB_get hx).2, a4⟩
  refine h M V a w ⟨hr.size, hr.defers, ⟨hh.below, hh.d0, hh.bl, hh.gl, fun c x hx => ?_, fun r x hx => ?_, hh.ro, hh.pin, fun c e x y hx hy he => hh.bb c e x y (remB_get hx).2 (remB_get hy).2 he, fun c r x y g hx hy hf hg => hh.br c r x y g (remB_get hx).2 hy hf hg, hh.rr⟩, fun s z hz => ?_⟩
  · obtain ⟨a1, cs, a2, a3⟩ := hh.box c x (remB_get hx).2
    exact ⟨a1, cs, a2, a3.stay hk hD⟩
  · have h1 := hh.row r x hx
    split
    · rename_i hf
      rw [if_pos hf] at h1
      exact h1.stay hk hD
    · rename_i hf
      rw [if_neg hf] at h1
      obtain ⟨xs, a2, a3⟩ := h1
      exact ⟨xs, a2, a3.stay hk hD⟩
  · rcases lk_cons hz with ⟨rfl, rfl⟩ | ⟨_, hz⟩
    · obtain ⟨a1, cs, a2, a3⟩ := hh.box b bx hb
      have hf : Fits w (Dc cx B R M V w) ds cs := manyOf_fit hm a3.1 fun j y v hy hv => (a3.2 j y v hy hv).1
      have hp : a.tmps.getD t undef = .pointer (some ⟨M b, 0, none⟩) := hr.tmp t _ hx
      show Lies w _ (.ptr bx.ty ds) _
      rw [hp]
      refine .ptr (M b) bx.ty ds cs (.inr ⟨a1, a2.lt, fun c x hx e => ?_, fun r x hx hf' e => ?_⟩) a2 hf.1 fun j d v hd hv => (hf.2 j d v hd hv).stay hk hD
      · exact (remB_get hx).1 (hh.bb c b x bx (remB_get hx).2 hb e)
      · exact hh.br b r bx x (M b) hb hx hf' e rfl
    · exact (hr.tmp s z hz).stay hk hD
end
end Go.Proofs.YtfcjeciepadmeaaGreatDoor
namespace Go.Proofs.YtfcjeciepadmeaaGreatDoor
section
variable {P : Program} {cx : Cx} {T T' : TL} {B : BL} {R : RL} {ops : Array Oper} {Q : Exit → Act → World → Prop} {o : Oper} {l : List Oper} {d : Nat} {y : IV} {x : Operand} {ys : List IV}
theorem l_op (h : LStep P cx B R o T y) (hE : E cx ((d, y) :: T) B R (wpList P ops Q l)) (hg : o.guard = none := by exact rfl) (hd : o.dst = some d := by exact rfl) (hn : Nat.blt d cx.n = true := by exact rfl) : E cx T B R (wpList P ops Q (o :: l)) := e_list_op hg hd hn h hE
theorem l_mv (hE : E cx ((d, y) :: T) B R (wpList P ops Q l)) (hg : o.guard = none := by exact rfl) (hd : o.dst = some d := by exact rfl) (hn : Nat.blt d cx.n = true := by exact rfl) (ho : o.op = .move x := by exact rfl) (hk : ev T x = some y := by exact rfl) : E cx T B R (wpList P ops Q (o :: l)) := e_list_op hg hd hn (s_move ho (kn hk)) hE
theorem l_as (hE : E cx ((d, y) :: T) B R (wpList P ops Q l)) (hg : o.guard = none := by exact rfl) (hd : o.dst = some d := by exact rfl) (hn : Nat.blt d cx.n = true := by exact rfl) (ho : o.op = .assign x := by exact rfl) (hk : ev T x = some y := by exact rfl) : E cx T B R (wpList P ops Q (o :: l)) := e_list_op hg hd hn (s_assign ho (kn hk)) hE
theorem l_ex {i : Nat} {ps : List Part} {p : Part} (hE : E cx ((d, .part p) :: T) B R (wpList P ops Q l)) (hg : o.guard = none := by exact rfl) (hd : o.dst = some d := by exact rfl) (hn : Nat.blt d cx.n = true := by exact rfl) (ho : o.op = .extract x i := by exact rfl) (hk : ev T x = some (.tup ps) := by exact rfl) (hi : ps[i]? = some p := by exact rfl) : E cx T B R (wpList P ops Q (o :: l)) := e_list_op hg hd hn (s_extract ho (kn hk) hi) hE
theorem w_op (hg : o.guard = none) (hd : o.dst = some d) (hn : Nat.blt d cx.n = true) (h : LStep P cx B R o T y) (hW : Walk P cx B R ops l ((d, y) :: T) ys T') : Walk P cx B R ops (o :: l) T (y :: ys) T' := .op hg hd hn h hW
theorem w_mv (hg : o.guard = none) (hd : o.dst = some d) (hn : Nat.blt d cx.n = true) (ho : o.op = .move x) (hk : ev T x = some y) (hW : Walk P cx B R ops l ((d, y) :: T) ys T') : Walk P cx B R ops (o :: l) T (y :: ys) T' := .op hg hd hn (s_move ho (kn hk)) hW
theorem w_as (hg : o.guard = none) (hd : o.dst = some d) (hn : Nat.blt d cx.n = true) (ho : o.op = .assign x) (hk : ev T x = some y) (hW : Walk P cx B R ops l ((d, y) :: T) ys T') : Walk P cx B R ops (o :: l) T (y :: ys) T' := .op hg hd hn (s_assign ho (kn hk)) hW
theorem s_t {t : Nat} (h : lk t T = some y := by exact rfl) : ∃ z, lk t T = some z ∧ Imp z y := sub_refl y h
theorem s_b {b : Nat} {z : Bx} (h : lk b B = some z := by exact rfl) : ∃ u, lk b B = some u ∧ u.ty = z.ty ∧ ImpL u.cs z.cs := sb_refl z h
theorem c_no {c : Operand} {a b : Code} (h : E cx T B R (b.wp P Q)) (hc : ev T c = some (.is (.bool false)) := by exact rfl) : E cx T B R ((Code.cond c a b).wp P Q) := e_cond hc (fun h => (by cases h)) fun _ => h
theorem c_yes {c : Operand} {a b : Code} (h : E cx T B R (a.wp P Q)) (hc : ev T c = some (.is (.bool true)) := by exact rfl) : E cx T B R ((Code.cond c a b).wp P Q) := e_cond hc (fun _ => h) fun h => (by cases h)
end
end Go.Proofs.YtfcjeciepadmeaaGreatDoor
namespace Go.Proofs.YtfcjeciepadmeaaGreatDoor
open Go.RowKit
theorem one_3 : oneT Tryz.prog 3 = true := by kernel_rfl
theorem sz_3 : sizeT Tryz.prog 3 = some 1 := by kernel_rfl
theorem int_3 : Tryz.prog.underlying 3 = some (.int .i64) := by kernel_rfl
theorem one_4 : oneT Tryz.prog 4 = true := by kernel_rfl
theorem sz_4 : sizeT Tryz.prog 4 = some 1 := by kernel_rfl
theorem bool_4 : Tryz.prog.underlying 4 = some .bool := by kernel_rfl
theorem zr_4 : zeroT Tryz.prog 4 = some [.bool false] := by kernel_rfl
theorem one_9 : oneT Tryz.prog 9 = true := by kernel_rfl
theorem sz_9 : sizeT Tryz.prog 9 = some 1 := by kernel_rfl
theorem str_9 : Tryz.prog.underlying 9 = some .string := by kernel_rfl
theorem zr_9 : zeroT Tryz.prog 9 = some [.string ⟨#[]⟩] := by kernel_rfl
theorem one_23 : oneT Tryz.prog 23 = true := by kernel_rfl
theorem sz_23 : sizeT Tryz.prog 23 = some 1 := by kernel_rfl
theorem sl_23 : Tryz.prog.underlying 23 = some (.slice 52) := by kernel_rfl
theorem sle_23 : Tryz.prog.underlying 23 = some (.slice (Tryz.prog.elem 23)) := by kernel_rfl
theorem esz_23 : sizeT Tryz.prog (Tryz.prog.elem 23) = some 9 := by kernel_rfl
theorem ap_23 : (Tryz.prog.info? 52).map (fun i => (i.size, i.bytes, i.zero.map (·.cells.size))) = some (9, 176, some 9) := by kernel_rfl
theorem one_24 : oneT Tryz.prog 24 = true := by kernel_rfl
theorem sz_24 : sizeT Tryz.prog 24 = some 1 := by kernel_rfl
theorem sl_24 : Tryz.prog.underlying 24 = some (.slice 76) := by kernel_rfl
theorem sle_24 : Tryz.prog.underlying 24 = some (.slice (Tryz.prog.elem 24)) := by kernel_rfl
theorem esz_24 : sizeT Tryz.prog (Tryz.prog.elem 24) = some 4 := by kernel_rfl
theorem ap_24 : (Tryz.prog.info? 76).map (fun i => (i.size, i.bytes, i.zero.map (·.cells.size))) = some (4, 56, some 4) := by kernel_rfl
theorem agg_26 : aggT Tryz.prog 26 = true := by kernel_rfl
theorem sz_26 : sizeT Tryz.prog 26 = some 3 := by kernel_rfl
theorem off_26_0 : foff Tryz.prog 26 0 = some 0 := by kernel_rfl
theorem off_26_1 : foff Tryz.prog 26 1 = some 1 := by kernel_rfl
theorem off_26_2 : foff Tryz.prog 26 2 = some 2 := by kernel_rfl
theorem pl_26 : placesT Tryz.prog 26 = some [(0, 1), (1, 1), (2, 1)] := by kernel_rfl
theorem zr_26 : zeroT Tryz.prog 26 = some [.string ⟨#[]⟩, .slice none 0 0, .slice none 0 0] := by kernel_rfl
theorem one_28 : oneT Tryz.prog 28 = true := by kernel_rfl
noncomputable def ifcms_28 : Array (String × TypeId) := match Tryz.prog.underlying 28 with | some (.interface ms) => ms | _ => #[]
theorem ifc_28 : Tryz.prog.underlying 28 = some (.interface ifcms_28) := by kernel_rfl
theorem one_31 : oneT Tryz.prog 31 = true := by kernel_rfl
theorem sz_31 : sizeT Tryz.prog 31 = some 1 := by kernel_rfl
theorem sl_31 : Tryz.prog.underlying 31 = some (.slice 68) := by kernel_rfl
theorem sle_31 : Tryz.prog.underlying 31 = some (.slice (Tryz.prog.elem 31)) := by kernel_rfl
theorem esz_31 : sizeT Tryz.prog (Tryz.prog.elem 31) = some 9 := by kernel_rfl
theorem ap_31 : (Tryz.prog.info? 68).map (fun i => (i.size, i.bytes, i.zero.map (·.cells.size))) = some (9, 176, some 9) := by kernel_rfl
theorem one_32 : oneT Tryz.prog 32 = true := by kernel_rfl
theorem sz_32 : sizeT Tryz.prog 32 = some 1 := by kernel_rfl
theorem sl_32 : Tryz.prog.underlying 32 = some (.slice 72) := by kernel_rfl
theorem sle_32 : Tryz.prog.underlying 32 = some (.slice (Tryz.prog.elem 32)) := by kernel_rfl
theorem esz_32 : sizeT Tryz.prog (Tryz.prog.elem 32) = some 4 := by kernel_rfl
theorem ap_32 : (Tryz.prog.info? 72).map (fun i => (i.size, i.bytes, i.zero.map (·.cells.size))) = some (4, 56, some 4) := by kernel_rfl
theorem agg_34 : aggT Tryz.prog 34 = true := by kernel_rfl
theorem sz_34 : sizeT Tryz.prog 34 = some 3 := by kernel_rfl
theorem off_34_0 : foff Tryz.prog 34 0 = some 0 := by kernel_rfl
theorem off_34_1 : foff Tryz.prog 34 1 = some 1 := by kernel_rfl
theorem off_34_2 : foff Tryz.prog 34 2 = some 2 := by kernel_rfl
theorem pl_34 : placesT Tryz.prog 34 = some [(0, 1), (1, 1), (2, 1)] := by kernel_rfl
theorem zr_34 : zeroT Tryz.prog 34 = some [.string ⟨#[]⟩, .slice none 0 0, .slice none 0 0] := by kernel_rfl
theorem one_41 : oneT Tryz.prog 41 = true := by kernel_rfl
theorem sle_41 : Tryz.prog.underlying 41 = some (.slice (Tryz.prog.elem 41)) := by kernel_rfl
theorem esz_41 : sizeT Tryz.prog (Tryz.prog.elem 41) = some 5 := by kernel_rfl
theorem agg_45 : aggT Tryz.prog 45 = true := by kernel_rfl
theorem sz_45 : sizeT Tryz.prog 45 = some 5 := by kernel_rfl
theorem off_45_0 : foff Tryz.prog 45 0 = some 0 := by kernel_rfl
theorem off_45_1 : foff Tryz.prog 45 1 = some 1 := by kernel_rfl
theorem off_45_2 : foff Tryz.prog 45 2 = some 2 := by kernel_rfl
theorem off_45_3 : foff Tryz.prog 45 3 = some 3 := by kernel_rfl
theorem off_45_4 : foff Tryz.prog 45 4 = some 4 := by kernel_rfl
theorem pl_45 : placesT Tryz.prog 45 = some [(0, 1), (1, 1), (2, 1), (3, 1), (4, 1)] := by kernel_rfl
theorem zr_45 : zeroT Tryz.prog 45 = some [.int .i64 0, .string ⟨#[]⟩, .int .i64 0, .int .i64 0, .int .i64 0] := by kernel_rfl
theorem one_48 : oneT Tryz.prog 48 = true := by kernel_rfl
theorem sz_48 : sizeT Tryz.prog 48 = some 1 := by kernel_rfl
theorem sl_48 : Tryz.prog.underlying 48 = some (.slice 56) := by kernel_rfl
theorem sle_48 : Tryz.prog.underlying 48 = some (.slice (Tryz.prog.elem 48)) := by kernel_rfl
theorem esz_48 : sizeT Tryz.prog (Tryz.prog.elem 48) = some 10 := by kernel_rfl
theorem ap_48 : (Tryz.prog.info? 56).map (fun i => (i.size, i.bytes, i.zero.map (·.cells.size))) = some (10, 112, some 10) := by kernel_rfl
theorem one_49 : oneT Tryz.prog 49 = true := by kernel_rfl
theorem sz_49 : sizeT Tryz.prog 49 = some 1 := by kernel_rfl
theorem sl_49 : Tryz.prog.underlying 49 = some (.slice 9) := by kernel_rfl
theorem sle_49 : Tryz.prog.underlying 49 = some (.slice (Tryz.prog.elem 49)) := by kernel_rfl
theorem esz_49 : sizeT Tryz.prog (Tryz.prog.elem 49) = some 1 := by kernel_rfl
theorem ap_49 : (Tryz.prog.info? 9).map (fun i => (i.size, i.bytes, i.zero.map (·.cells.size))) = some (1, 16, some 1) := by kernel_rfl
theorem one_50 : oneT Tryz.prog 50 = true := by kernel_rfl
theorem sz_50 : sizeT Tryz.prog 50 = some 1 := by kernel_rfl
theorem sl_50 : Tryz.prog.underlying 50 = some (.slice 117) := by kernel_rfl
theorem sle_50 : Tryz.prog.underlying 50 = some (.slice (Tryz.prog.elem 50)) := by kernel_rfl
theorem esz_50 : sizeT Tryz.prog (Tryz.prog.elem 50) = some 2 := by kernel_rfl
theorem ap_50 : (Tryz.prog.info? 117).map (fun i => (i.size, i.bytes, i.zero.map (·.cells.size))) = some (2, 16, some 2) := by kernel_rfl
theorem agg_52 : aggT Tryz.prog 52 = true := by kernel_rfl
theorem sz_52 : sizeT Tryz.prog 52 = some 9 := by kernel_rfl
theorem off_52_0 : foff Tryz.prog 52 0 = some 0 := by kernel_rfl
theorem off_52_1 : foff Tryz.prog 52 1 = some 1 := by kernel_rfl
theorem off_52_2 : foff Tryz.prog 52 2 = some 2 := by kernel_rfl
theorem off_52_3 : foff Tryz.prog 52 3 = some 3 := by kernel_rfl
theorem off_52_4 : foff Tryz.prog 52 4 = some 4 := by kernel_rfl
theorem off_52_5 : foff Tryz.prog 52 5 = some 5 := by kernel_rfl
theorem off_52_6 : foff Tryz.prog 52 6 = some 6 := by kernel_rfl
theorem off_52_7 : foff Tryz.prog 52 7 = some 7 := by kernel_rfl
theorem off_52_8 : foff Tryz.prog 52 8 = some 8 := by kernel_rfl
theorem pl_52 : placesT Tryz.prog 52 = some [(0, 1), (1, 1), (2, 1), (3, 1), (4, 1), (5, 1), (6, 1), (7, 1), (8, 1)] := by kernel_rfl
theorem zr_52 : zeroT Tryz.prog 52 = some [.string ⟨#[]⟩, .slice none 0 0, .slice none 0 0, .slice none 0 0, .slice none 0 0, .slice none 0 0, .slice none 0 0, .int .i64 0, .int .i64 0] := by kernel_rfl
theorem agg_56 : aggT Tryz.prog 56 = true := by kernel_rfl
theorem sz_56 : sizeT Tryz.prog 56 = some 10 := by kernel_rfl
theorem off_56_0 : foff Tryz.prog 56 0 = some 0 := by kernel_rfl
theorem off_56_1 : foff Tryz.prog 56 1 = some 1 := by kernel_rfl
theorem off_56_2 : foff Tryz.prog 56 2 = some 2 := by kernel_rfl
theorem off_56_3 : foff Tryz.prog 56 3 = some 3 := by kernel_rfl
theorem off_56_5 : foff Tryz.prog 56 5 = some 5 := by kernel_rfl
theorem off_56_6 : foff Tryz.prog 56 6 = some 6 := by kernel_rfl
theorem off_56_8 : foff Tryz.prog 56 8 = some 8 := by kernel_rfl
theorem off_56_9 : foff Tryz.prog 56 9 = some 9 := by kernel_rfl
theorem pl_56 : placesT Tryz.prog 56 = some [(0, 1), (1, 1), (2, 1), (3, 1), (4, 1), (5, 1), (6, 1), (7, 1), (8, 1), (9, 1)] := by kernel_rfl
theorem zr_56 : zeroT Tryz.prog 56 = some [.string ⟨#[]⟩, .string ⟨#[]⟩, .string ⟨#[]⟩, .string ⟨#[]⟩, .int .i64 0, .int .i64 0, .int .i64 0, .int .i64 0, .int .i64 0, .int .i64 0] := by kernel_rfl
theorem one_65 : oneT Tryz.prog 65 = true := by kernel_rfl
theorem sz_65 : sizeT Tryz.prog 65 = some 1 := by kernel_rfl
theorem sl_65 : Tryz.prog.underlying 65 = some (.slice 112) := by kernel_rfl
theorem sle_65 : Tryz.prog.underlying 65 = some (.slice (Tryz.prog.elem 65)) := by kernel_rfl
theorem esz_65 : sizeT Tryz.prog (Tryz.prog.elem 65) = some 10 := by kernel_rfl
theorem ap_65 : (Tryz.prog.info? 112).map (fun i => (i.size, i.bytes, i.zero.map (·.cells.size))) = some (10, 112, some 10) := by kernel_rfl
theorem one_66 : oneT Tryz.prog 66 = true := by kernel_rfl
theorem sz_66 : sizeT Tryz.prog 66 = some 1 := by kernel_rfl
theorem sl_66 : Tryz.prog.underlying 66 = some (.slice 114) := by kernel_rfl
theorem sle_66 : Tryz.prog.underlying 66 = some (.slice (Tryz.prog.elem 66)) := by kernel_rfl
theorem esz_66 : sizeT Tryz.prog (Tryz.prog.elem 66) = some 2 := by kernel_rfl
theorem ap_66 : (Tryz.prog.info? 114).map (fun i => (i.size, i.bytes, i.zero.map (·.cells.size))) = some (2, 16, some 2) := by kernel_rfl
theorem agg_68 : aggT Tryz.prog 68 = true := by kernel_rfl
theorem sz_68 : sizeT Tryz.prog 68 = some 9 := by kernel_rfl
theorem off_68_0 : foff Tryz.prog 68 0 = some 0 := by kernel_rfl
theorem off_68_1 : foff Tryz.prog 68 1 = some 1 := by kernel_rfl
theorem off_68_2 : foff Tryz.prog 68 2 = some 2 := by kernel_rfl
theorem off_68_3 : foff Tryz.prog 68 3 = some 3 := by kernel_rfl
theorem off_68_4 : foff Tryz.prog 68 4 = some 4 := by kernel_rfl
theorem off_68_5 : foff Tryz.prog 68 5 = some 5 := by kernel_rfl
theorem off_68_6 : foff Tryz.prog 68 6 = some 6 := by kernel_rfl
theorem off_68_7 : foff Tryz.prog 68 7 = some 7 := by kernel_rfl
theorem off_68_8 : foff Tryz.prog 68 8 = some 8 := by kernel_rfl
theorem pl_68 : placesT Tryz.prog 68 = some [(0, 1), (1, 1), (2, 1), (3, 1), (4, 1), (5, 1), (6, 1), (7, 1), (8, 1)] := by kernel_rfl
theorem zr_68 : zeroT Tryz.prog 68 = some [.string ⟨#[]⟩, .slice none 0 0, .slice none 0 0, .slice none 0 0, .slice none 0 0, .slice none 0 0, .slice none 0 0, .int .i64 0, .int .i64 0] := by kernel_rfl
theorem one_70 : oneT Tryz.prog 70 = true := by kernel_rfl
theorem sz_70 : sizeT Tryz.prog 70 = some 1 := by kernel_rfl
theorem sl_70 : Tryz.prog.underlying 70 = some (.slice 116) := by kernel_rfl
theorem sle_70 : Tryz.prog.underlying 70 = some (.slice (Tryz.prog.elem 70)) := by kernel_rfl
theorem esz_70 : sizeT Tryz.prog (Tryz.prog.elem 70) = some 4 := by kernel_rfl
theorem ap_70 : (Tryz.prog.info? 116).map (fun i => (i.size, i.bytes, i.zero.map (·.cells.size))) = some (4, 40, some 4) := by kernel_rfl
theorem agg_72 : aggT Tryz.prog 72 = true := by kernel_rfl
theorem sz_72 : sizeT Tryz.prog 72 = some 4 := by kernel_rfl
theorem off_72_0 : foff Tryz.prog 72 0 = some 0 := by kernel_rfl
theorem off_72_1 : foff Tryz.prog 72 1 = some 1 := by kernel_rfl
theorem off_72_2 : foff Tryz.prog 72 2 = some 2 := by kernel_rfl
theorem off_72_3 : foff Tryz.prog 72 3 = some 3 := by kernel_rfl
theorem pl_72 : placesT Tryz.prog 72 = some [(0, 1), (1, 1), (2, 1), (3, 1)] := by kernel_rfl
theorem zr_72 : zeroT Tryz.prog 72 = some [.string ⟨#[]⟩, .slice none 0 0, .int .i64 0, .int .i64 0] := by kernel_rfl
theorem one_74 : oneT Tryz.prog 74 = true := by kernel_rfl
theorem sz_74 : sizeT Tryz.prog 74 = some 1 := by kernel_rfl
theorem sl_74 : Tryz.prog.underlying 74 = some (.slice 118) := by kernel_rfl
theorem sle_74 : Tryz.prog.underlying 74 = some (.slice (Tryz.prog.elem 74)) := by kernel_rfl
theorem esz_74 : sizeT Tryz.prog (Tryz.prog.elem 74) = some 4 := by kernel_rfl
theorem ap_74 : (Tryz.prog.info? 118).map (fun i => (i.size, i.bytes, i.zero.map (·.cells.size))) = some (4, 40, some 4) := by kernel_rfl
theorem agg_76 : aggT Tryz.prog 76 = true := by kernel_rfl
theorem sz_76 : sizeT Tryz.prog 76 = some 4 := by kernel_rfl
theorem off_76_0 : foff Tryz.prog 76 0 = some 0 := by kernel_rfl
theorem off_76_1 : foff Tryz.prog 76 1 = some 1 := by kernel_rfl
theorem off_76_2 : foff Tryz.prog 76 2 = some 2 := by kernel_rfl
theorem off_76_3 : foff Tryz.prog 76 3 = some 3 := by kernel_rfl
theorem pl_76 : placesT Tryz.prog 76 = some [(0, 1), (1, 1), (2, 1), (3, 1)] := by kernel_rfl
theorem zr_76 : zeroT Tryz.prog 76 = some [.string ⟨#[]⟩, .slice none 0 0, .int .i64 0, .int .i64 0] := by kernel_rfl
theorem pl_80 : placesT Tryz.prog 80 = some [(0, 1), (1, 1), (2, 1)] := by kernel_rfl
theorem zr_80 : zeroT Tryz.prog 80 = some [.int .i64 0, .int .i64 0, .nilIface] := by kernel_rfl
theorem sz_86 : sizeT Tryz.prog 86 = some 2 := by kernel_rfl
theorem off_86_0 : foff Tryz.prog 86 0 = some 0 := by kernel_rfl
theorem off_86_1 : foff Tryz.prog 86 1 = some 1 := by kernel_rfl
theorem pl_86 : placesT Tryz.prog 86 = some [(0, 1), (1, 1)] := by kernel_rfl
theorem zr_86 : zeroT Tryz.prog 86 = some [.slice none 0 0, .int .i64 0] := by kernel_rfl
theorem one_100 : oneT Tryz.prog 100 = true := by kernel_rfl
theorem sz_100 : sizeT Tryz.prog 100 = some 1 := by kernel_rfl
theorem sl_100 : Tryz.prog.underlying 100 = some (.slice 5) := by kernel_rfl
theorem agg_112 : aggT Tryz.prog 112 = true := by kernel_rfl
theorem sz_112 : sizeT Tryz.prog 112 = some 10 := by kernel_rfl
theorem off_112_8 : foff Tryz.prog 112 8 = some 8 := by kernel_rfl
theorem off_112_9 : foff Tryz.prog 112 9 = some 9 := by kernel_rfl
theorem zr_112 : zeroT Tryz.prog 112 = some [.string ⟨#[]⟩, .string ⟨#[]⟩, .string ⟨#[]⟩, .string ⟨#[]⟩, .int .i64 0, .int .i64 0, .int .i64 0, .int .i64 0, .int .i64 0, .int .i64 0] := by kernel_rfl
theorem agg_114 : aggT Tryz.prog 114 = true := by kernel_rfl
theorem sz_114 : sizeT Tryz.prog 114 = some 2 := by kernel_rfl
theorem zr_114 : zeroT Tryz.prog 114 = some [.int .i64 0, .int .i64 0] := by kernel_rfl
theorem agg_116 : aggT Tryz.prog 116 = true := by kernel_rfl
theorem sz_116 : sizeT Tryz.prog 116 = some 4 := by kernel_rfl
theorem off_116_2 : foff Tryz.prog 116 2 = some 2 := by kernel_rfl
theorem off_116_3 : foff Tryz.prog 116 3 = some 3 := by kernel_rfl
theorem zr_116 : zeroT Tryz.prog 116 = some [.string ⟨#[]⟩, .int .i64 0, .int .i64 0, .int .i64 0] := by kernel_rfl
theorem agg_117 : aggT Tryz.prog 117 = true := by kernel_rfl
theorem sz_117 : sizeT Tryz.prog 117 = some 2 := by kernel_rfl
theorem pl_117 : placesT Tryz.prog 117 = some [(0, 1), (1, 1)] := by kernel_rfl
theorem zr_117 : zeroT Tryz.prog 117 = some [.int .i64 0, .int .i64 0] := by kernel_rfl
theorem agg_118 : aggT Tryz.prog 118 = true := by kernel_rfl
theorem sz_118 : sizeT Tryz.prog 118 = some 4 := by kernel_rfl
theorem pl_118 : placesT Tryz.prog 118 = some [(0, 1), (1, 1), (2, 1), (3, 1)] := by kernel_rfl
theorem zr_118 : zeroT Tryz.prog 118 = some [.string ⟨#[]⟩, .int .i64 0, .int .i64 0, .int .i64 0] := by kernel_rfl
theorem one_123 : oneT Tryz.prog 123 = true := by kernel_rfl
theorem one_170 : oneT Tryz.prog 170 = true := by kernel_rfl
theorem sz_170 : sizeT Tryz.prog 170 = some 1 := by kernel_rfl
theorem off_172_0 : foff Tryz.prog 172 0 = some 0 := by kernel_rfl
theorem off_172_1 : foff Tryz.prog 172 1 = some 1 := by kernel_rfl
theorem zr_172 : zeroT Tryz.prog 172 = some [.pointer none, .slice none 0 0] := by kernel_rfl
theorem one_208 : oneT Tryz.prog 208 = true := by kernel_rfl
theorem mixed : Tryz.prog.follows .mixedOrders = true := by kernel_rfl
end Go.Proofs.YtfcjeciepadmeaaGreatDoor
namespace Go.Proofs.YtfcjeciepadmeaaGreatDoor
open Go.RowKit
section
variable {P : Program} {cx : Cx} {T : TL} {B : BL} {R : RL}
theorem e_cutk {ι : Type} {Q : Exit → Act → World → Prop} {K : Act → World → Prop} {x : Code} (Ti : ι → TL) (Bi : ι → BL) (Ri : ι → RL) (h1 : E cx T B R (x.wp P (Exit.then (Cut cx Ti Bi Ri) Q))) (h2 : ∀ i, E cx (Ti i) (Bi i) (Ri i) K) : E cx T B R (x.wp P (Exit.then K Q)) := fun M V a w hr => by
  refine wp_mono (h1 M V a w hr) fun e a' w' hq => ?_
  cases e <;> first | exact hq | (obtain ⟨i, M', V', h3⟩ := hq; exact h2 i M' V' a' w' h3)
end
end Go.Proofs.YtfcjeciepadmeaaGreatDoor
namespace Go.Proofs.YtfcjeciepadmeaaGreatDoor
open Go.RowKit
noncomputable def cdec (p : Prop) : Bool := @decide p (Classical.propDecidable p)
theorem cdec_true {p : Prop} : cdec p = true ↔ p := by unfold cdec; exact @decide_eq_true_iff p (Classical.propDecidable p)
theorem cdec_eq {p : Prop} {b : Bool} (h : b = true ↔ p) : b = cdec p := by
  cases b
  · cases hc : cdec p
    · rfl
    · exact absurd (h.2 (cdec_true.1 hc)) (by decide)
  · exact (cdec_true.2 (h.1 rfl)).symm
inductive Alike (P : Program) (t : TypeId) : Value → Value → Prop where
  | int (k k' : IntKind) (a b : Int) (h : P.underlying t = some (.int k')) : Alike P t (.int k a) (.int k b)
  | str (a b : List UInt8) (h : P.underlying t = some .string) : Alike P t (.string (str a)) (.string (str b))
def Flat (P : Program) : Nat → List Field → List Value → List Value → Prop
  | _, [], [], [] => True
  | i, f :: fs, a :: aa, b :: bs => f.offset = i ∧ f.name ≠ "_" ∧ Alike P f.type a b ∧ Flat P (i + 1) fs aa bs
  | _, _, _, _ => False
theorem run_part_one {P : Program} {t : TypeId} {xs : Array Value} {i : Nat} {v : Value} (w : World) (ht : P.underlying t = some .string ∨ ∃ k, P.underlying t = some (.int k)) (h : xs[i]? = some v) : (part t xs i).run P w = .ok v w := by
  rcases ht with hu | ⟨k, hu⟩ <;> simp [part, isAgg, run_underlying hu, h]
theorem run_equal_alike {P : Program} {t : TypeId} {a b : Value} (d : Nat) (w : World) (h : Alike P t a b) : ∃ x, (Op.equalIn (d + 1) t a b).run P w = .ok x w ∧ (x = true ↔ a = b) := by
  cases h with
  | int k k' a b hu => exact ⟨_, run_equalIn_int w d t k k' a b hu, by simp⟩
  | str a b hu => exact ⟨_, run_equalIn_string w d t _ _ hu, by rw [str_toList, str_toList, beq_iff_eq]; constructor <;> intro h <;> first | (rw [h]) | (injection h with h; have := congrArg ByteArray.toList h; rwa [str_toList, str_toList] at this)⟩
theorem Alike.plain {P : Program} {t : TypeId} {a b : Value} (h : Alike P t a b) : P.underlying t = some .string ∨ ∃ k, P.underlying t = some (.int k) := by
  cases h with
  | int k k' a b hu => exact .inr ⟨k', hu⟩
  | str a b hu => exact .inl hu
theorem run_eqFields_flat {P : Program} (d : Nat) (w : World) (xs ys : List Value) : ∀ (fs : List Field) (i : Nat) (aa bs : List Value), Flat P i fs aa bs → xs.drop i = aa → ys.drop i = bs →
    ∃ x, (Op.eqFields (d + 1) xs.toArray ys.toArray fs).run P w = .ok x w ∧ (x = true ↔ aa = bs)
  | [], i, [], [], _, _, _ => ⟨true, by simp [Op.eqFields], by simp⟩
  | f :: fs, i, a :: aa, b :: bs, h, hx, hy => by
    obtain ⟨h1, h2, h3, h4⟩ := h
    have hx1 : xs[i]? = some a := by rw [← Nat.add_zero i, ← List.getElem?_drop, hx]; rfl
    have hy1 : ys[i]? = some b := by rw [← Nat.add_zero i, ← List.getElem?_drop, hy]; rfl
    have hx2 : xs.drop (i + 1) = aa := by rw [← List.drop_drop, hx]; rfl
    have hy2 : ys.drop (i + 1) = bs := by rw [← List.drop_drop, hy]; rfl
    obtain ⟨x, e1, e2⟩ := run_equal_alike d w h3
    obtain ⟨y, e3, e4⟩ := run_eqFields_flat d w xs ys fs (i + 1) aa bs h4 hx2 hy2
    subst h1
    simp only [Op.eqFields, if_pos h2, Sem.run_bind, run_part_one (P := P) (xs := xs.toArray) w h3.plain (by simpa using hx1), run_part_one (P := P) (xs := ys.toArray) w h3.plain (by simpa using hy1), e1, Result.andThen_ok]
    cases x
    · refine ⟨false, by simp, ?_⟩
      simp only [Bool.false_eq_true, false_iff, List.cons.injEq, not_and]
      intro h
      exact absurd (e2.2 h) (by decide)
    · refine ⟨y, by simpa using e3, ?_⟩
      rw [e4, List.cons.injEq]
      exact ⟨fun h => ⟨e2.1 rfl, h⟩, fun h => h.2⟩
  | [], _, _ :: _, _, h, _, _ => h.elim
  | [], _, [], _ :: _, h, _, _ => h.elim
  | _ :: _, _, [], _, h, _, _ => h.elim
  | _ :: _, _, _ :: _, [], h, _, _ => h.elim
def flatB (P : Program) : Nat → List Field → List Bool → Bool
  | _, [], [] => true
  | i, f :: fs, k :: ks => Nat.beq f.offset i && !(f.name == "_") && (match P.underlying f.type with | some .string => k | some (.int _) => !k | _ => false) && flatB P (i + 1) fs ks
  | _, _, _ => false
inductive KindsOf : List Bool → List Value → List Value → Prop where
  | nil : KindsOf [] [] []
  | str (a b : List UInt8) {ks : List Bool} {aa bs : List Value} (h : KindsOf ks aa bs) : KindsOf (true :: ks) (.string (str a) :: aa) (.string (str b) :: bs)
  | int (k : IntKind) (a b : Int) {ks : List Bool} {aa bs : List Value} (h : KindsOf ks aa bs) : KindsOf (false :: ks) (.int k a :: aa) (.int k b :: bs)
theorem flat_of {P : Program} : ∀ {fs : List Field} {i : Nat} {ks : List Bool} {aa bs : List Value}, flatB P i fs ks = true → KindsOf ks aa bs → Flat P i fs aa bs
  | [], _, _, _, _, _, .nil => trivial
  | f :: fs, i, _, _, _, h, .str a b hk => by
    simp only [flatB, Bool.and_eq_true] at h
    obtain ⟨⟨⟨h1, h2⟩, h3⟩, h4⟩ := h
    refine ⟨Nat.eq_of_beq_eq_true h1, fun e => by rw [e] at h2; exact absurd h2 (by decide), ?_, flat_of h4 hk⟩
    cases hu : P.underlying f.type with
    | none => rw [hu] at h3; cases h3
    | some d => cases d <;> rw [hu] at h3 <;> first | exact .str a b hu | cases h3
  | f :: fs, i, _, _, _, h, .int k a b hk => by
    simp only [flatB, Bool.and_eq_true] at h
    obtain ⟨⟨⟨h1, h2⟩, h3⟩, h4⟩ := h
    refine ⟨Nat.eq_of_beq_eq_true h1, fun e => by rw [e] at h2; exact absurd h2 (by decide), ?_, flat_of h4 hk⟩
    cases hu : P.underlying f.type with
    | none => rw [hu] at h3; cases h3
    | some d => cases d <;> rw [hu] at h3 <;> first | exact .int k _ a b hu | cases h3
  | [], _, _, _, _, h, .str _ _ _ => by cases h
  | [], _, _, _, _, h, .int _ _ _ _ => by cases h
  | _ :: _, _, _, _, _, h, .nil => by cases h
section
variable {P : Program} {cx : Cx} {T : TL} {B : BL} {R : RL} {o : Oper}
theorem v_stneq {t : TypeId} {cs ds : List Value} (ht : P.underlying t = some (.struct (P.fieldsOf t))) (hp : P.stoodInHeld t = false) (hm : P.eqGuardType P.depth t = false) (hf : Flat P 0 (P.fieldsOf t).toList cs ds) : BinV P .neq t (.agg cs.toArray) (.agg ds.toArray) (.bool (!cdec (cs = ds))) := fun x y w => by
  obtain ⟨z, h1, h2⟩ := run_eqFields_flat 9998 w cs ds _ 0 cs ds hf rfl rfl
  rw [Sem.run_bind, run_eqGuard_agg w .neq t x y _ _ hm, Result.andThen_ok, run_neq_struct, run_equalIn_agg w 9999 t _ _ ht hp, h1, Result.andThen_ok, cdec_eq h2]
theorem many_cells {w : World} {D : Nat → Prop} {M : Nat → Nat} {V : Nat → Value} {cs : List Value} {v : Value} (h : VR w D M V (.part (.many (cs.map .cell))) v) : v = .agg cs.toArray := by
  obtain ⟨xs, rfl, h⟩ := h
  congr 2
  induction cs generalizing xs with
  | nil => exact List.length_eq_zero_iff.1 (by simpa using h.1.symm)
  | cons c cs ih =>
    obtain ⟨x, ys, rfl, h1, h2⟩ := h.head
    rw [h1.cell_eq, ih ys h2]
theorem s_binm {x y : Operand} {op : BinOp} {t t' : TypeId} {cs ds : List Value} {r : Value} (ho : o.op = .binOp op t x y t') (hx : Kn T x (.part (.many (cs.map .cell)))) (hy : Kn T y (.part (.many (ds.map .cell)))) (h : BinV P op t (.agg cs.toArray) (.agg ds.toArray) r) : LStep P cx B R o T (.is r) := LStep.same fun M V w a _ hk => by
  have h1 := many_cells (hk x _ (by simp [ho, Op.operands]) hx)
  have h2 := many_cells (hk y _ (by simp [ho, Op.operands]) hy)
  refine ⟨r, ?_, .cell r⟩
  have := h x y w
  unfold execOp
  simp only [ho, h1, h2]
  rw [Sem.run_bind, this]
  rfl
end
end Go.Proofs.YtfcjeciepadmeaaGreatDoor
