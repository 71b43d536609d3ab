/- Part 9 of what the last text of this claim is proved by: walks over the program, and the math behind them. Conditions: as each theorem says. -/
import Derived.Test.YtekeanikgcpijaaDoorSO08
import Derived.Laws.Build
import Derived.Laws.Strings2
import Derived.Test.YtekeanikgcpijaaDoorProg
import Derived.Laws.StructEq
namespace Go.Proofs.YtekeanikgcpijaaDoor
open Go.RowKit
section
variable {P : Program} {cx : Cx} {T : TL} {B : BL} {R : RL} {o : Oper}
abbrev IV.str (l : List UInt8) : IV := .is (.string (Go.Proofs.YtekeanikgcpijaaDoor.str l))
section
variable {t : TypeId} {a b : List UInt8}
theorem v_sadd (h : a.length + b.length ≤ 9223372036854775807) : BinV P .add t (.string (str a)) (.string (str b)) (.string (str (a ++ b))) := fun _ _ w => by
  have h1 : ¬ (9223372036854775807 < ((str a).size + (str b).size)) := by rw [strSize, strSize]; omega
  have h2 : ¬ ((((str a).size + (str b).size : Nat) : Int) > IntKind.i64.max) := by
    have : IntKind.i64.max = 9223372036854775807 := by decide
    rw [this]
    omega
  simp only [eqGuard, binOp, Op.stringOp]
  rw [if_neg h2, str_append]
  rfl
theorem list_beq (a b : List UInt8) : (a == b) = decide (a = b) := by
  by_cases h : a = b
  · subst h
    simp
  · rw [decide_eq_false h]
    simpa using h
theorem v_seql : BinV P .eql t (.string (str a)) (.string (str b)) (.bool (decide (a = b))) := fun _ _ w => by
  simp only [eqGuard, binOp, Op.stringOp, str_toList, list_beq]
  rfl
theorem v_sneq : BinV P .neq t (.string (str a)) (.string (str b)) (.bool (!decide (a = b))) := fun _ _ w => by
  simp only [eqGuard, binOp, Op.stringOp, str_toList, list_beq]
  rfl
end
theorem s_slen {x : Operand} {t : TypeId} {l : List UInt8} (ho : o.op = .call { callee := .builtin .len, args := #[x], argTypes := #[t] }) (hx : Kn T x (.is (.string (str l)))) (ht : P.underlying t = some .string) :
    LStep P cx B R o T (.is (.int .i64 (l.length : Int))) := LStep.same fun M V w a _ hk => by
  have h1 := (hk x _ (by simp [ho, Op.operands, Call.operands]) hx).is_eq
  exact ⟨_, by simp [execOp, ho, h1, resolve, invoke, builtin, run_len_string w t _ (str l) ht, goInt, strSize], .cell _⟩
theorem s_sindex {x i : Operand} {t : TypeId} {l : List UInt8} {k : IntKind} {z : Int} {c : UInt8} (ho : o.op = .index t x i) (hx : Kn T x (.is (.string (str l)))) (hi : Kn T i (.is (.int k z))) (hz : 0 ≤ z) (hc : l[z.toNat]? = some c) (ht : P.underlying t = some .string) :
    LStep P cx B R o T (.is (.int .u8 (c.toNat : Int))) := LStep.same fun M V w a _ hk => by
  have h1 := (hk x _ (by simp [ho, Op.operands]) hx).is_eq
  have h2 := (hk i _ (by simp [ho, Op.operands]) hi).is_eq
  have hlt := (List.getElem?_eq_some_iff.1 hc).1
  have h3 := run_index_string (P := P) w t (str l) k z ht
  rw [dif_pos ⟨hz, by rw [strSize]; omega⟩] at h3
  have h4 : (str l)[z.toNat]'(by rw [strSize]; exact hlt) = c := (List.getElem?_eq_some_iff.1 hc).2
  rw [h4] at h3
  exact ⟨_, by simp [execOp, ho, h1, h2, h3], .cell _⟩
theorem s_sslice_from {x lo : Operand} {t : TypeId} {l : List UInt8} {k : IntKind} {z : Int} (ho : o.op = .slice t x (some lo) none none) (hx : Kn T x (.is (.string (str l)))) (hl : Kn T lo (.is (.int k z))) (hz : 0 ≤ z ∧ z ≤ (l.length : Int)) (ht : P.underlying t = some .string) :
    LStep P cx B R o T (.is (.string (str (l.drop z.toNat)))) := LStep.same fun M V w a _ hk => by
  have h1 := (hk x _ (by simp [ho, Op.operands]) hx).is_eq
  have h2 := (hk lo _ (by simp [ho, Op.operands]) hl).is_eq
  have h3 := run_slice_string_from_if (P := P) w t (str l) k z ht
  rw [if_pos ⟨hz.1, by rw [strSize]; exact hz.2⟩, str_extract, strSize, List.take_of_length_le (by rw [List.length_drop]; omega)] at h3
  exact ⟨_, by simp [execOp, ho, h1, h2, run_sliceAt_string w t _ _ _ _ ht, h3], .cell _⟩
theorem s_sslice_to {x hi : Operand} {t : TypeId} {l : List UInt8} {k : IntKind} {z : Int} (ho : o.op = .slice t x none (some hi) none) (hx : Kn T x (.is (.string (str l)))) (hl : Kn T hi (.is (.int k z))) (hz : 0 ≤ z ∧ z ≤ (l.length : Int)) (ht : P.underlying t = some .string) :
    LStep P cx B R o T (.is (.string (str (l.take z.toNat)))) := LStep.same fun M V w a _ hk => by
  have h1 := (hk x _ (by simp [ho, Op.operands]) hx).is_eq
  have h2 := (hk hi _ (by simp [ho, Op.operands]) hl).is_eq
  have h3 := run_slice_string_to_if (P := P) w t (str l) k z ht
  rw [if_pos ⟨hz.1, by rw [strSize]; exact hz.2⟩, str_extract, List.drop_zero, Nat.sub_zero] at h3
  exact ⟨_, by simp [execOp, ho, h1, h2, run_sliceAt_string w t _ _ _ _ ht, h3], .cell _⟩
theorem s_iface {x : Operand} {t : TypeId} {d : Dat} (ho : o.op = .makeInterface t x) (hx : Kn T x (.part (.one d))) (ht : P.concrete t = true) : LStep P cx B R o T (.part (.one (.ifc t d))) := LStep.same fun M V w a _ hk => by
  have h1 : Lies _ _ d (a.eval x) := hk x _ (by simp [ho, Op.operands]) hx
  exact ⟨_, by simp [execOp, ho, run_makeInterface w t (a.eval x) ht], .ifc t d _ h1⟩
theorem run_equalIn_iface (n : Nat) (w : World) {t : TypeId} {ms : Array (String × TypeId)} (ht : P.underlying t = some (.interface ms)) (s : TypeId) (u : Value) : (Op.equalIn (n + 1) t (.iface s u) .nilIface).run P w = .ok false w := by
  rw [Op.equalIn, Sem.run_bind, run_underlying ht]
  rfl
theorem run_equalIn_nil (n : Nat) (w : World) {t : TypeId} {ms : Array (String × TypeId)} (ht : P.underlying t = some (.interface ms)) : (Op.equalIn (n + 1) t .nilIface .nilIface).run P w = .ok true w := by
  rw [Op.equalIn, Sem.run_bind, run_underlying ht]
  rfl
theorem run_equal_iface (w : World) {t : TypeId} {ms : Array (String × TypeId)} (ht : P.underlying t = some (.interface ms)) (s : TypeId) (u : Value) : (Op.equal t (.iface s u) .nilIface).run P w = .ok false w := run_equalIn_iface 9999 w ht s u
theorem run_equal_nil (w : World) {t : TypeId} {ms : Array (String × TypeId)} (ht : P.underlying t = some (.interface ms)) : (Op.equal t .nilIface .nilIface).run P w = .ok true w := run_equalIn_nil 9999 w ht
def Dat.iface? : Dat → Bool
  | .ifc _ _ => true
  | .cell (.iface _ _) => true
  | _ => false
theorem Lies.iface {w : World} {D : Nat → Prop} {d : Dat} {v : Value} (h : Lies w D d v) (hd : d.iface? = true) : ∃ s u, v = .iface s u := by
  cases h with
  | ifc t d v _ => exact ⟨t, v, rfl⟩
  | cell v =>
    cases v <;> first | exact ⟨_, _, rfl⟩ | cases hd
  | none => cases hd
  | row => cases hd
  | ptr => cases hd
  | map => cases hd
theorem s_err_neq {x : Operand} {t t' : TypeId} {ms : Array (String × TypeId)} {d : Dat} (ho : o.op = .binOp .neq t x (.const .nilIface) t') (hx : Kn T x (.part (.one d))) (hd : d.iface? = true) (ht : P.underlying t = some (.interface ms)) : LStep P cx B R o T (.is (.bool true)) := LStep.same fun M V w a _ hk => by
  obtain ⟨s, u, h1⟩ := Lies.iface (hk x _ (by simp [ho, Op.operands]) hx) hd
  have h2 : a.eval (.const .nilIface) = .nilIface := rfl
  exact ⟨_, by simp [execOp, ho, h1, h2, eqGuard, binOp, run_equal_iface w ht], .cell _⟩
theorem s_nil_neq {x : Operand} {t t' : TypeId} {ms : Array (String × TypeId)} (ho : o.op = .binOp .neq t x (.const .nilIface) t') (hx : Kn T x (.is .nilIface)) (ht : P.underlying t = some (.interface ms)) : LStep P cx B R o T (.is (.bool false)) := LStep.same fun M V w a _ hk => by
  have h1 := (hk x _ (by simp [ho, Op.operands]) hx).is_eq
  have h2 : a.eval (.const .nilIface) = .nilIface := rfl
  have hg := eqGuard_nil_constR (op := .neq) (t := t) (x := x) .nilIface
  exact ⟨_, by simp [execOp, ho, h1, h2, hg, binOp, run_equal_nil w ht], .cell _⟩
def Cap.iv : Cap → IV
  | .box b j => .box b j
  | .val v => .is v
def KnC (T : TL) : List Operand → List Cap → Prop
  | [], [] => True
  | x :: l, c :: m => Kn T x c.iv ∧ KnC T l m
  | _, _ => False
theorem Cap.iv_eq {w : World} {D : Nat → Prop} {M : Nat → Nat} {V : Nat → Value} {c : Cap} {v : Value} (h : VR w D M V c.iv v) : v = capV M c := by
  cases c with
  | box b j => exact h
  | val u => exact h.is_eq
theorem KnC.eq {w : World} {D : Nat → Prop} {M : Nat → Nat} {V : Nat → Value} {a : Act} : ∀ {l : List Operand} {m : List Cap}, KnC T l m → (∀ x z, x ∈ l → Kn T x z → VR w D M V z (a.eval x)) → l.map a.eval = m.map (capV M)
  | [], [], _, _ => rfl
  | x :: l, c :: m, h, hk => by
    rw [List.map_cons, List.map_cons, Cap.iv_eq (hk x _ List.mem_cons_self h.1), KnC.eq h.2 fun y z hy => hk y z (List.mem_cons_of_mem _ hy)]
  | [], _ :: _, h, _ => h.elim
  | _ :: _, [], h, _ => h.elim
theorem s_func {fn : Fn} {xs ys : List Operand} {fs cs : List Cap} (ho : o.op = .makeFunc fn xs.toArray ys.toArray) (hx : KnC T xs fs) (hy : KnC T ys cs) : LStep P cx B R o T (.clo fn fs cs) := LStep.same fun M V w a _ hk => by
  have h1 := hx.eq fun x z hm hkx => hk x z (by simp [ho, Op.operands]; exact .inl hm) hkx
  have h2 := hy.eq fun x z hm hkx => hk x z (by simp [ho, Op.operands]; exact .inr hm) hkx
  refine ⟨_, ?_, rfl⟩
  unfold execOp
  simp only [ho, List.map_toArray]
  simp only [Instr.makeFunc, h1, h2]
  rfl
theorem caps_VRs {w : World} {D : Nat → Prop} {M : Nat → Nat} {V : Nat → Value} : ∀ cs : List Cap, VRs w D M V (cs.map Cap.iv) (cs.map (capV M))
  | [] => trivial
  | .box _ _ :: cs => ⟨rfl, caps_VRs cs⟩
  | .val v :: cs => ⟨Lies.cell v, caps_VRs cs⟩
theorem VRs.append {w : World} {D : Nat → Prop} {M : Nat → Nat} {V : Nat → Value} : ∀ {xs ys : List IV} {us vs : List Value}, VRs w D M V xs us → VRs w D M V ys vs → VRs w D M V (xs ++ ys) (us ++ vs)
  | [], _, [], _, _, h => h
  | _ :: _, _, _ :: _, _, h1, h2 => ⟨h1.1, VRs.append h1.2 h2⟩
  | [], _, _ :: _, _, h, _ => h.elim
  | _ :: _, _, [], _, h, _ => h.elim
theorem e_callc {ops : Array Oper} {Q : Exit → Act → World → Prop} {l : List Oper} {d : Nat} {f : FuncId} {x : Operand} {xs : List Operand} {ts : Array TypeId} {fs cs : List Cap} {zs ys : List IV} (ρ σ : Nat → Nat) {B0 : BL} {R0 : RL} {Y : IV → BL → RL → Prop} (hg : o.guard = none) (hd : o.dst = some d) (hn : Nat.blt d cx.n = true) (ho : o.op = .call { callee := .value x, args := xs.toArray, argTypes := ts }) (hc : callable P f = true) (hL : Lent B R ρ σ B0 R0)
    (hx : Kn T x (.clo (.func f) fs cs)) (hxs : KnX T xs zs) (hys : ys.map (·.ren ρ σ) = fs.map Cap.iv ++ zs ++ cs.map Cap.iv) (hf : EG P cx.gl f ys B0 R0 Y)
    (hY : ∀ y B1 R1, Y y B1 R1 → names B1 = names B0 ∧ names R1 = names R0 ∧ binB (names B0) (names R0) B1 = true ∧ y.bin (names B0) (names R0) = true)
    (hE : ∀ y B1 R1, Y y B1 R1 → E cx ((d, y.ren ρ σ) :: killTL ((names R0).map σ) T) (renB ρ σ B1 ++ killBL ((names R0).map σ) B) (renR σ R1 ++ R) (wpList P ops Q l)) : E cx T B R (wpList P ops Q (o :: l)) := fun M V a w hr => by
  refine wpList_plain hg fun K hK => ?_
  have h1 : a.eval x = .func (.func f) (fs.map (capV M)).toArray (cs.map (capV M)).toArray := hx w (Dc cx B R M V w) M V a fun t z _ hz => hr.tmp t z hz
  have hrun : (execOp a.eval o).run P w = .ok (.enter f (fs.map (capV M) ++ xs.map a.eval ++ cs.map (capV M)).toArray) w := by
    simp [execOp, ho, resolve, h1, Deferred.ofValue, invoke, run_callable hc]
  have hv : VRs w (Dc cx B R M V w) M V (ys.map (·.ren ρ σ)) (fs.map (capV M) ++ xs.map a.eval ++ cs.map (capV M)) := by
    rw [hys]
    exact ((caps_VRs fs).append (hxs.vrs fun t z hz => hr.tmp t z hz)).append (caps_VRs cs)
  unfold Oper.wp
  rw [hrun]
  simp only [Oper.upon, hd]
  exact (calls_back hr hL hv hf hY (blt_lt hn)).mono fun e w' ⟨v, y, B1, R1, V', h1, h2, h3⟩ => by
    subst h1
    exact hK _ _ (hE y B1 R1 h2 M V' _ _ h3)
theorem e_guard {ops : Array Oper} {Q : Exit → Act → World → Prop} {l : List Oper} {d : Nat} {g : Bool} (hg : gk ops T o = some g) (hd : o.dst = some d) (hn : Nat.blt d cx.n = true) (h1 : g = true → E cx T B R (wpList P ops Q ({ o with guard := none } :: l))) (h0 : g = false → E cx ((d, .is undef) :: T) B R (wpList P ops Q l)) : E cx T B R (wpList P ops Q (o :: l)) := fun M V a w hr => by
  have hw := gk_wanted hg fun t z v _ hz hv => whole_of hv (hr.tmp t z hz)
  cases g with
  | false =>
    refine wpList_step fun K hK => ?_
    rw [hw, if_neg (by simp)]
    refine hK _ _ (h0 rfl M V _ w ?_)
    rw [hd]
    exact hr.put (Below.refl _ _) (blt_lt hn) (Lies.cell undef)
  | true =>
    have h2 := h1 rfl M V a w hr
    unfold wpList at h2 ⊢
    rw [if_pos (by simp [Region.wanted])] at h2
    rw [if_pos hw]
    exact h2
theorem e_boxi {ops : Array Oper} {Q : Exit → Act → World → Prop} {l : List Oper} {d : Nat} {ty : TypeId} {x : Operand} {y : IV} (b : Nat) (hg : o.guard = none) (hd : o.dst = some d) (hn : Nat.blt d cx.n = true) (ho : o.op = .box ty x) (hx : Kn T x y) (h1 : y.isOne = true)
    (hpn : cx.pn.all (fun c => !Nat.beq c b) = true) (hT : nobT b T = true) (hB : nobB b B = true) (hy : y.nob b = true) (hE : E cx ((d, .box b 0) :: T) ((b, ⟨ty, [y]⟩) :: B) R (wpList P ops Q l)) : E cx T B R (wpList P ops Q (o :: l)) := fun M V a w hr => by
  refine wpList_plain hg fun K hK => ?_
  have hv := hx w (Dc cx B R M V w) M V a fun t z _ hz => hr.tmp t z hz
  have hone := hv.one h1
  have hcl : (a.eval x).cells = #[a.eval x] := by
    revert hone
    generalize a.eval x = v
    intro h
    cases v <;> first | rfl | cases h
  have hc : CFit w (Dc cx B R M V w) M V [y] [a.eval x] := ⟨rfl, fun j z v hz hvv => by
    cases j with
    | zero =>
      simp at hz hvv
      subst hz
      subst hvv
      exact ⟨hv, hone⟩
    | succ j => simp at hz⟩
  obtain ⟨M', hr'⟩ := hr.alloc b ty hpn hT hB (by simp [hy]) hc (d := d) (blt_lt hn)
  have := hK _ _ (hE M' V _ _ hr')
  unfold Oper.wp execOp
  simp only [ho, Sem.run_bind]
  simp [Instr.box, newVar, newRow, hcl, Oper.upon, hd]
  exact this
def remB (b : Nat) : BL → BL
  | [] => []
  | (c, x) :: l => bif Nat.beq c b then remB b l else (c, x) :: remB b l
theorem remB_get {b c : Nat} {x : Bx} : ∀ {B : BL}, lk c (remB b B) = some x → c ≠ b ∧ lk c B = some x
  | [], h => by cases h
  | (e, y) :: l, h => by
    simp only [remB] at h
    cases hb : Nat.beq e b with
    | true =>
      rw [hb] at h
      obtain ⟨h1, h2⟩ := remB_get (B := l) h
      have := Nat.eq_of_beq_eq_true hb
      exact ⟨h1, (lk_cons_ne _ _ (by rw [this]; exact Ne.symm h1)).trans h2⟩
    | false =>
      rw [hb] at h
      rcases lk_cons h with ⟨rfl, rfl⟩ | ⟨hne, h⟩
      · exact ⟨fun e => by subst e; simp at hb, lk_cons_eq _ _ _⟩
      · obtain ⟨h1, h2⟩ := remB_get (B := l) h
        exact ⟨h1, (lk_cons_ne _ _ hne).trans h2⟩
theorem e_data {K : Act → World → Prop} (t b : Nat) {bx : Bx} {ds : List Dat} (hx : lk t T = some (.box b 0)) (hb : lk b B = some bx) (hm : manyOf bx.cs = some ds) (h : E cx ((t, .part (.one (.ptr bx.ty ds))) :: T) (remB b B) R K) : E cx T B R K := fun M V a w hr => by
  have hh := hr.heap
  have hk := Keeps.refl (Dc cx B R M V w) w
  have hD : ∀ g, Dc cx B R M V w g → Dc cx (remB b B) R M V w g := fun g hg => by
    rcases hg with hg | ⟨a1, a2, a3, a4⟩
    · exact .inl hg
    · exact .inr ⟨a1, a2, fun c x hx => a3 c x (remB_get hx).2, a4⟩
  refine h M V a w ⟨hr.size, hr.defers, ⟨hh.below, hh.d0, hh.bl, hh.gl, fun c x hx => ?_, fun r x hx => ?_, hh.ro, hh.pin, fun c e x y hx hy he => hh.bb c e x y (remB_get hx).2 (remB_get hy).2 he, fun c r x y g hx hy hf hg => hh.br c r x y g (remB_get hx).2 hy hf hg, hh.rr⟩, fun s z hz => ?_⟩
  · obtain ⟨a1, cs, a2, a3⟩ := hh.box c x (remB_get hx).2
    exact ⟨a1, cs, a2, a3.stay hk hD⟩
  · have h1 := hh.row r x hx
    split
    · rename_i hf
      rw [if_pos hf] at h1
      exact h1.stay hk hD
    · rename_i hf
      rw [if_neg hf] at h1
      obtain ⟨xs, a2, a3⟩ := h1
      exact ⟨xs, a2, a3.stay hk hD⟩
  · rcases lk_cons hz with ⟨rfl, rfl⟩ | ⟨_, hz⟩
    · obtain ⟨a1, cs, a2, a3⟩ := hh.box b bx hb
      have hf : Fits w (Dc cx B R M V w) ds cs := manyOf_fit hm a3.1 fun j y v hy hv => (a3.2 j y v hy hv).1
      have hp : a.tmps.getD t undef = .pointer (some ⟨M b, 0, none⟩) := hr.tmp t _ hx
      show Lies w _ (.ptr bx.ty ds) _
      rw [hp]
      refine .ptr (M b) bx.ty ds cs (.inr ⟨a1, a2.lt, fun c x hx e => ?_, fun r x hx hf' e => ?_⟩) a2 hf.1 fun j d v hd hv => (hf.2 j d v hd hv).stay hk hD
      · exact (remB_get hx).1 (hh.bb c b x bx (remB_get hx).2 hb e)
      · exact hh.br b r bx x (M b) hb hx hf' e rfl
    · exact (hr.tmp s z hz).stay hk hD
end
end Go.Proofs.YtekeanikgcpijaaDoor
namespace Go.Proofs.YtekeanikgcpijaaDoor
section
variable {P : Program} {cx : Cx} {T T' : TL} {B : BL} {R : RL} {ops : Array Oper} {Q : Exit → Act → World → Prop} {o : Oper} {l : List Oper} {d : Nat} {y : IV} {x : Operand} {ys : List IV}
theorem l_op (h : LStep P cx B R o T y) (hE : E cx ((d, y) :: T) B R (wpList P ops Q l)) (hg : o.guard = none := by exact rfl) (hd : o.dst = some d := by exact rfl) (hn : Nat.blt d cx.n = true := by exact rfl) : E cx T B R (wpList P ops Q (o :: l)) := e_list_op hg hd hn h hE
theorem l_mv (hE : E cx ((d, y) :: T) B R (wpList P ops Q l)) (hg : o.guard = none := by exact rfl) (hd : o.dst = some d := by exact rfl) (hn : Nat.blt d cx.n = true := by exact rfl) (ho : o.op = .move x := by exact rfl) (hk : ev T x = some y := by exact rfl) : E cx T B R (wpList P ops Q (o :: l)) := e_list_op hg hd hn (s_move ho (kn hk)) hE
theorem l_as (hE : E cx ((d, y) :: T) B R (wpList P ops Q l)) (hg : o.guard = none := by exact rfl) (hd : o.dst = some d := by exact rfl) (hn : Nat.blt d cx.n = true := by exact rfl) (ho : o.op = .assign x := by exact rfl) (hk : ev T x = some y := by exact rfl) : E cx T B R (wpList P ops Q (o :: l)) := e_list_op hg hd hn (s_assign ho (kn hk)) hE
theorem l_ex {i : Nat} {ps : List Part} {p : Part} (hE : E cx ((d, .part p) :: T) B R (wpList P ops Q l)) (hg : o.guard = none := by exact rfl) (hd : o.dst = some d := by exact rfl) (hn : Nat.blt d cx.n = true := by exact rfl) (ho : o.op = .extract x i := by exact rfl) (hk : ev T x = some (.tup ps) := by exact rfl) (hi : ps[i]? = some p := by exact rfl) : E cx T B R (wpList P ops Q (o :: l)) := e_list_op hg hd hn (s_extract ho (kn hk) hi) hE
theorem w_op (hg : o.guard = none) (hd : o.dst = some d) (hn : Nat.blt d cx.n = true) (h : LStep P cx B R o T y) (hW : Walk P cx B R ops l ((d, y) :: T) ys T') : Walk P cx B R ops (o :: l) T (y :: ys) T' := .op hg hd hn h hW
theorem w_mv (hg : o.guard = none) (hd : o.dst = some d) (hn : Nat.blt d cx.n = true) (ho : o.op = .move x) (hk : ev T x = some y) (hW : Walk P cx B R ops l ((d, y) :: T) ys T') : Walk P cx B R ops (o :: l) T (y :: ys) T' := .op hg hd hn (s_move ho (kn hk)) hW
theorem w_as (hg : o.guard = none) (hd : o.dst = some d) (hn : Nat.blt d cx.n = true) (ho : o.op = .assign x) (hk : ev T x = some y) (hW : Walk P cx B R ops l ((d, y) :: T) ys T') : Walk P cx B R ops (o :: l) T (y :: ys) T' := .op hg hd hn (s_assign ho (kn hk)) hW
theorem s_t {t : Nat} (h : lk t T = some y := by exact rfl) : ∃ z, lk t T = some z ∧ Imp z y := sub_refl y h
theorem s_b {b : Nat} {z : Bx} (h : lk b B = some z := by exact rfl) : ∃ u, lk b B = some u ∧ u.ty = z.ty ∧ ImpL u.cs z.cs := sb_refl z h
theorem c_no {c : Operand} {a b : Code} (h : E cx T B R (b.wp P Q)) (hc : ev T c = some (.is (.bool false)) := by exact rfl) : E cx T B R ((Code.cond c a b).wp P Q) := e_cond hc (fun h => (by cases h)) fun _ => h
theorem c_yes {c : Operand} {a b : Code} (h : E cx T B R (a.wp P Q)) (hc : ev T c = some (.is (.bool true)) := by exact rfl) : E cx T B R ((Code.cond c a b).wp P Q) := e_cond hc (fun _ => h) fun h => (by cases h)
end
end Go.Proofs.YtekeanikgcpijaaDoor
namespace Go.Proofs.YtekeanikgcpijaaDoor
open Go.RowKit
theorem one_3 : oneT Tryd.prog 3 = true := by kernel_rfl
theorem sz_3 : sizeT Tryd.prog 3 = some 1 := by kernel_rfl
theorem int_3 : Tryd.prog.underlying 3 = some (.int .i64) := by kernel_rfl
theorem one_4 : oneT Tryd.prog 4 = true := by kernel_rfl
theorem sz_4 : sizeT Tryd.prog 4 = some 1 := by kernel_rfl
theorem bool_4 : Tryd.prog.underlying 4 = some .bool := by kernel_rfl
theorem zr_4 : zeroT Tryd.prog 4 = some [.bool false] := by kernel_rfl
theorem one_9 : oneT Tryd.prog 9 = true := by kernel_rfl
theorem sz_9 : sizeT Tryd.prog 9 = some 1 := by kernel_rfl
theorem str_9 : Tryd.prog.underlying 9 = some .string := by kernel_rfl
theorem zr_9 : zeroT Tryd.prog 9 = some [.string ⟨#[]⟩] := by kernel_rfl
theorem one_25 : oneT Tryd.prog 25 = true := by kernel_rfl
theorem sz_25 : sizeT Tryd.prog 25 = some 1 := by kernel_rfl
theorem sl_25 : Tryd.prog.underlying 25 = some (.slice 48) := by kernel_rfl
theorem sle_25 : Tryd.prog.underlying 25 = some (.slice (Tryd.prog.elem 25)) := by kernel_rfl
theorem esz_25 : sizeT Tryd.prog (Tryd.prog.elem 25) = some 9 := by kernel_rfl
theorem ap_25 : (Tryd.prog.info? 48).map (fun i => (i.size, i.bytes, i.zero.map (·.cells.size))) = some (9, 176, some 9) := by kernel_rfl
theorem one_26 : oneT Tryd.prog 26 = true := by kernel_rfl
theorem sz_26 : sizeT Tryd.prog 26 = some 1 := by kernel_rfl
theorem sl_26 : Tryd.prog.underlying 26 = some (.slice 77) := by kernel_rfl
theorem sle_26 : Tryd.prog.underlying 26 = some (.slice (Tryd.prog.elem 26)) := by kernel_rfl
theorem esz_26 : sizeT Tryd.prog (Tryd.prog.elem 26) = some 4 := by kernel_rfl
theorem ap_26 : (Tryd.prog.info? 77).map (fun i => (i.size, i.bytes, i.zero.map (·.cells.size))) = some (4, 56, some 4) := by kernel_rfl
theorem agg_28 : aggT Tryd.prog 28 = true := by kernel_rfl
theorem sz_28 : sizeT Tryd.prog 28 = some 3 := by kernel_rfl
theorem off_28_0 : foff Tryd.prog 28 0 = some 0 := by kernel_rfl
theorem off_28_1 : foff Tryd.prog 28 1 = some 1 := by kernel_rfl
theorem off_28_2 : foff Tryd.prog 28 2 = some 2 := by kernel_rfl
theorem pl_28 : placesT Tryd.prog 28 = some [(0, 1), (1, 1), (2, 1)] := by kernel_rfl
theorem zr_28 : zeroT Tryd.prog 28 = some [.string ⟨#[]⟩, .slice none 0 0, .slice none 0 0] := by kernel_rfl
theorem one_30 : oneT Tryd.prog 30 = true := by kernel_rfl
noncomputable def ifcms_30 : Array (String × TypeId) := match Tryd.prog.underlying 30 with | some (.interface ms) => ms | _ => #[]
theorem ifc_30 : Tryd.prog.underlying 30 = some (.interface ifcms_30) := by kernel_rfl
theorem sl_36 : Tryd.prog.underlying 36 = some (.slice 39) := by kernel_rfl
theorem sle_36 : Tryd.prog.underlying 36 = some (.slice (Tryd.prog.elem 36)) := by kernel_rfl
theorem esz_36 : sizeT Tryd.prog (Tryd.prog.elem 36) = some 5 := by kernel_rfl
theorem ap_36 : (Tryd.prog.info? 39).map (fun i => (i.size, i.bytes, i.zero.map (·.cells.size))) = some (5, 48, some 5) := by kernel_rfl
theorem agg_39 : aggT Tryd.prog 39 = true := by kernel_rfl
theorem sz_39 : sizeT Tryd.prog 39 = some 5 := by kernel_rfl
theorem off_39_0 : foff Tryd.prog 39 0 = some 0 := by kernel_rfl
theorem off_39_1 : foff Tryd.prog 39 1 = some 1 := by kernel_rfl
theorem off_39_2 : foff Tryd.prog 39 2 = some 2 := by kernel_rfl
theorem off_39_3 : foff Tryd.prog 39 3 = some 3 := by kernel_rfl
theorem off_39_4 : foff Tryd.prog 39 4 = some 4 := by kernel_rfl
theorem pl_39 : placesT Tryd.prog 39 = some [(0, 1), (1, 1), (2, 1), (3, 1), (4, 1)] := by kernel_rfl
theorem zr_39 : zeroT Tryd.prog 39 = some [.string ⟨#[]⟩, .bool false, .int .i64 0, .int .i64 0, .int .i64 0] := by kernel_rfl
theorem one_44 : oneT Tryd.prog 44 = true := by kernel_rfl
theorem sz_44 : sizeT Tryd.prog 44 = some 1 := by kernel_rfl
theorem sl_44 : Tryd.prog.underlying 44 = some (.slice 135) := by kernel_rfl
theorem ap_44 : (Tryd.prog.info? 135).map (fun i => (i.size, i.bytes, i.zero.map (·.cells.size))) = some (10, 112, some 10) := by kernel_rfl
theorem one_45 : oneT Tryd.prog 45 = true := by kernel_rfl
theorem sz_45 : sizeT Tryd.prog 45 = some 1 := by kernel_rfl
theorem sl_45 : Tryd.prog.underlying 45 = some (.slice 9) := by kernel_rfl
theorem sle_45 : Tryd.prog.underlying 45 = some (.slice (Tryd.prog.elem 45)) := by kernel_rfl
theorem esz_45 : sizeT Tryd.prog (Tryd.prog.elem 45) = some 1 := by kernel_rfl
theorem ap_45 : (Tryd.prog.info? 9).map (fun i => (i.size, i.bytes, i.zero.map (·.cells.size))) = some (1, 16, some 1) := by kernel_rfl
theorem one_46 : oneT Tryd.prog 46 = true := by kernel_rfl
theorem sz_46 : sizeT Tryd.prog 46 = some 1 := by kernel_rfl
theorem sl_46 : Tryd.prog.underlying 46 = some (.slice 144) := by kernel_rfl
theorem ap_46 : (Tryd.prog.info? 144).map (fun i => (i.size, i.bytes, i.zero.map (·.cells.size))) = some (2, 16, some 2) := by kernel_rfl
theorem agg_48 : aggT Tryd.prog 48 = true := by kernel_rfl
theorem sz_48 : sizeT Tryd.prog 48 = some 9 := by kernel_rfl
theorem off_48_0 : foff Tryd.prog 48 0 = some 0 := by kernel_rfl
theorem off_48_1 : foff Tryd.prog 48 1 = some 1 := by kernel_rfl
theorem off_48_2 : foff Tryd.prog 48 2 = some 2 := by kernel_rfl
theorem off_48_3 : foff Tryd.prog 48 3 = some 3 := by kernel_rfl
theorem off_48_4 : foff Tryd.prog 48 4 = some 4 := by kernel_rfl
theorem off_48_5 : foff Tryd.prog 48 5 = some 5 := by kernel_rfl
theorem off_48_6 : foff Tryd.prog 48 6 = some 6 := by kernel_rfl
theorem off_48_7 : foff Tryd.prog 48 7 = some 7 := by kernel_rfl
theorem off_48_8 : foff Tryd.prog 48 8 = some 8 := by kernel_rfl
theorem pl_48 : placesT Tryd.prog 48 = some [(0, 1), (1, 1), (2, 1), (3, 1), (4, 1), (5, 1), (6, 1), (7, 1), (8, 1)] := by kernel_rfl
theorem zr_48 : zeroT Tryd.prog 48 = some [.string ⟨#[]⟩, .slice none 0 0, .slice none 0 0, .slice none 0 0, .slice none 0 0, .slice none 0 0, .slice none 0 0, .int .i64 0, .int .i64 0] := by kernel_rfl
theorem one_50 : oneT Tryd.prog 50 = true := by kernel_rfl
theorem sle_50 : Tryd.prog.underlying 50 = some (.slice (Tryd.prog.elem 50)) := by kernel_rfl
theorem esz_50 : sizeT Tryd.prog (Tryd.prog.elem 50) = some 5 := by kernel_rfl
theorem one_54 : oneT Tryd.prog 54 = true := by kernel_rfl
theorem one_55 : oneT Tryd.prog 55 = true := by kernel_rfl
theorem off_58_0 : foff Tryd.prog 58 0 = some 0 := by kernel_rfl
theorem off_58_1 : foff Tryd.prog 58 1 = some 200 := by kernel_rfl
theorem off_58_2 : foff Tryd.prog 58 2 = some 201 := by kernel_rfl
theorem off_58_3 : foff Tryd.prog 58 3 = some 202 := by kernel_rfl
theorem pl_58 : placesT Tryd.prog 58 = some [(0, 200), (200, 1), (201, 1), (202, 1)] := by kernel_rfl
theorem pl_65 : placesT Tryd.prog 65 = some [(0, 1), (1, 1), (2, 1)] := by kernel_rfl
theorem zr_65 : zeroT Tryd.prog 65 = some [.int .i64 0, .int .i64 0, .nilIface] := by kernel_rfl
theorem agg_67 : aggT Tryd.prog 67 = true := by kernel_rfl
theorem sz_67 : sizeT Tryd.prog 67 = some 5 := by kernel_rfl
theorem off_67_0 : foff Tryd.prog 67 0 = some 0 := by kernel_rfl
theorem off_67_1 : foff Tryd.prog 67 1 = some 1 := by kernel_rfl
theorem off_67_2 : foff Tryd.prog 67 2 = some 2 := by kernel_rfl
theorem off_67_3 : foff Tryd.prog 67 3 = some 3 := by kernel_rfl
theorem off_67_4 : foff Tryd.prog 67 4 = some 4 := by kernel_rfl
theorem pl_67 : placesT Tryd.prog 67 = some [(0, 1), (1, 1), (2, 1), (3, 1), (4, 1)] := by kernel_rfl
theorem zr_67 : zeroT Tryd.prog 67 = some [.int .i64 0, .string ⟨#[]⟩, .int .i64 0, .int .i64 0, .int .i64 0] := by kernel_rfl
theorem sz_73 : sizeT Tryd.prog 73 = some 2 := by kernel_rfl
theorem off_73_0 : foff Tryd.prog 73 0 = some 0 := by kernel_rfl
theorem off_73_1 : foff Tryd.prog 73 1 = some 1 := by kernel_rfl
theorem pl_73 : placesT Tryd.prog 73 = some [(0, 1), (1, 1)] := by kernel_rfl
theorem zr_73 : zeroT Tryd.prog 73 = some [.slice none 0 0, .int .i64 0] := by kernel_rfl
theorem one_75 : oneT Tryd.prog 75 = true := by kernel_rfl
theorem sz_75 : sizeT Tryd.prog 75 = some 1 := by kernel_rfl
theorem sl_75 : Tryd.prog.underlying 75 = some (.slice 137) := by kernel_rfl
theorem ap_75 : (Tryd.prog.info? 137).map (fun i => (i.size, i.bytes, i.zero.map (·.cells.size))) = some (4, 40, some 4) := by kernel_rfl
theorem agg_77 : aggT Tryd.prog 77 = true := by kernel_rfl
theorem sz_77 : sizeT Tryd.prog 77 = some 4 := by kernel_rfl
theorem off_77_0 : foff Tryd.prog 77 0 = some 0 := by kernel_rfl
theorem off_77_1 : foff Tryd.prog 77 1 = some 1 := by kernel_rfl
theorem off_77_2 : foff Tryd.prog 77 2 = some 2 := by kernel_rfl
theorem off_77_3 : foff Tryd.prog 77 3 = some 3 := by kernel_rfl
theorem pl_77 : placesT Tryd.prog 77 = some [(0, 1), (1, 1), (2, 1), (3, 1)] := by kernel_rfl
theorem zr_77 : zeroT Tryd.prog 77 = some [.string ⟨#[]⟩, .slice none 0 0, .int .i64 0, .int .i64 0] := by kernel_rfl
theorem one_80 : oneT Tryd.prog 80 = true := by kernel_rfl
theorem sz_80 : sizeT Tryd.prog 80 = some 1 := by kernel_rfl
theorem sl_80 : Tryd.prog.underlying 80 = some (.slice 5) := by kernel_rfl
theorem one_86 : oneT Tryd.prog 86 = true := by kernel_rfl
theorem one_108 : oneT Tryd.prog 108 = true := by kernel_rfl
theorem sz_108 : sizeT Tryd.prog 108 = some 1 := by kernel_rfl
theorem off_110_0 : foff Tryd.prog 110 0 = some 0 := by kernel_rfl
theorem off_110_1 : foff Tryd.prog 110 1 = some 1 := by kernel_rfl
theorem zr_110 : zeroT Tryd.prog 110 = some [.pointer none, .slice none 0 0] := by kernel_rfl
theorem one_121 : oneT Tryd.prog 121 = true := by kernel_rfl
theorem agg_135 : aggT Tryd.prog 135 = true := by kernel_rfl
theorem sz_135 : sizeT Tryd.prog 135 = some 10 := by kernel_rfl
theorem off_135_0 : foff Tryd.prog 135 0 = some 0 := by kernel_rfl
theorem off_135_1 : foff Tryd.prog 135 1 = some 1 := by kernel_rfl
theorem off_135_2 : foff Tryd.prog 135 2 = some 2 := by kernel_rfl
theorem off_135_3 : foff Tryd.prog 135 3 = some 3 := by kernel_rfl
theorem off_135_5 : foff Tryd.prog 135 5 = some 5 := by kernel_rfl
theorem off_135_6 : foff Tryd.prog 135 6 = some 6 := by kernel_rfl
theorem off_135_8 : foff Tryd.prog 135 8 = some 8 := by kernel_rfl
theorem off_135_9 : foff Tryd.prog 135 9 = some 9 := by kernel_rfl
theorem pl_135 : placesT Tryd.prog 135 = some [(0, 1), (1, 1), (2, 1), (3, 1), (4, 1), (5, 1), (6, 1), (7, 1), (8, 1), (9, 1)] := by kernel_rfl
theorem zr_135 : zeroT Tryd.prog 135 = some [.string ⟨#[]⟩, .string ⟨#[]⟩, .string ⟨#[]⟩, .string ⟨#[]⟩, .int .i64 0, .int .i64 0, .int .i64 0, .int .i64 0, .int .i64 0, .int .i64 0] := by kernel_rfl
theorem sz_137 : sizeT Tryd.prog 137 = some 4 := by kernel_rfl
theorem pl_137 : placesT Tryd.prog 137 = some [(0, 1), (1, 1), (2, 1), (3, 1)] := by kernel_rfl
theorem zr_137 : zeroT Tryd.prog 137 = some [.string ⟨#[]⟩, .int .i64 0, .int .i64 0, .int .i64 0] := by kernel_rfl
theorem sz_144 : sizeT Tryd.prog 144 = some 2 := by kernel_rfl
theorem pl_144 : placesT Tryd.prog 144 = some [(0, 1), (1, 1)] := by kernel_rfl
theorem zr_144 : zeroT Tryd.prog 144 = some [.int .i64 0, .int .i64 0] := by kernel_rfl
theorem mixed : Tryd.prog.follows .mixedOrders = true := by kernel_rfl
end Go.Proofs.YtekeanikgcpijaaDoor
namespace Go.Proofs.YtekeanikgcpijaaDoor
open Go.RowKit
section
variable {P : Program} {cx : Cx} {T : TL} {B : BL} {R : RL}
theorem e_cutk {ι : Type} {Q : Exit → Act → World → Prop} {K : Act → World → Prop} {x : Code} (Ti : ι → TL) (Bi : ι → BL) (Ri : ι → RL) (h1 : E cx T B R (x.wp P (Exit.then (Cut cx Ti Bi Ri) Q))) (h2 : ∀ i, E cx (Ti i) (Bi i) (Ri i) K) : E cx T B R (x.wp P (Exit.then K Q)) := fun M V a w hr => by
  refine wp_mono (h1 M V a w hr) fun e a' w' hq => ?_
  cases e <;> first | exact hq | (obtain ⟨i, M', V', h3⟩ := hq; exact h2 i M' V' a' w' h3)
end
end Go.Proofs.YtekeanikgcpijaaDoor
namespace Go.Proofs.YtekeanikgcpijaaDoor
open Go.RowKit
noncomputable def cdec (p : Prop) : Bool := @decide p (Classical.propDecidable p)
theorem cdec_true {p : Prop} : cdec p = true ↔ p := by unfold cdec; exact @decide_eq_true_iff p (Classical.propDecidable p)
theorem cdec_eq {p : Prop} {b : Bool} (h : b = true ↔ p) : b = cdec p := by
  cases b
  · cases hc : cdec p
    · rfl
    · exact absurd (h.2 (cdec_true.1 hc)) (by decide)
  · exact (cdec_true.2 (h.1 rfl)).symm
inductive Alike (P : Program) (t : TypeId) : Value → Value → Prop where
  | int (k k' : IntKind) (a b : Int) (h : P.underlying t = some (.int k')) : Alike P t (.int k a) (.int k b)
  | str (a b : List UInt8) (h : P.underlying t = some .string) : Alike P t (.string (str a)) (.string (str b))
theorem run_part_one {P : Program} {t : TypeId} {xs : Array Value} {i : Nat} {v : Value} (w : World) (ht : P.underlying t = some .string ∨ ∃ k, P.underlying t = some (.int k)) (h : xs[i]? = some v) : (part t xs i).run P w = .ok v w := by
  rcases ht with hu | ⟨k, hu⟩ <;> simp [part, isAgg, run_underlying hu, h]
theorem Alike.plain {P : Program} {t : TypeId} {a b : Value} (h : Alike P t a b) : P.underlying t = some .string ∨ ∃ k, P.underlying t = some (.int k) := by
  cases h with
  | int k k' a b hu => exact .inr ⟨k', hu⟩
  | str a b hu => exact .inl hu
section
variable {P : Program} {cx : Cx} {T : TL} {B : BL} {R : RL} {o : Oper}
theorem many_cells {w : World} {D : Nat → Prop} {M : Nat → Nat} {V : Nat → Value} {cs : List Value} {v : Value} (h : VR w D M V (.part (.many (cs.map .cell))) v) : v = .agg cs.toArray := by
  obtain ⟨xs, rfl, h⟩ := h
  congr 2
  induction cs generalizing xs with
  | nil => exact List.length_eq_zero_iff.1 (by simpa using h.1.symm)
  | cons c cs ih =>
    obtain ⟨x, ys, rfl, h1, h2⟩ := h.head
    rw [h1.cell_eq, ih ys h2]
theorem s_binm {x y : Operand} {op : BinOp} {t t' : TypeId} {cs ds : List Value} {r : Value} (ho : o.op = .binOp op t x y t') (hx : Kn T x (.part (.many (cs.map .cell)))) (hy : Kn T y (.part (.many (ds.map .cell)))) (h : BinV P op t (.agg cs.toArray) (.agg ds.toArray) r) : LStep P cx B R o T (.is r) := LStep.same fun M V w a _ hk => by
  have h1 := many_cells (hk x _ (by simp [ho, Op.operands]) hx)
  have h2 := many_cells (hk y _ (by simp [ho, Op.operands]) hy)
  refine ⟨r, ?_, .cell r⟩
  have := h x y w
  unfold execOp
  simp only [ho, h1, h2]
  rw [Sem.run_bind, this]
  rfl
end
end Go.Proofs.YtekeanikgcpijaaDoor
namespace Go.Proofs.YtekeanikgcpijaaDoor
open Go.RowKit
theorem Cap.ren_id (c : Cap) : c.ren (fun b => b) = c := by cases c <;> rfl
theorem caps_ren_id (l : List Cap) : l.map (Cap.ren fun b => b) = l := by
  induction l with
  | nil => rfl
  | cons c l ih => rw [List.map_cons, ih, Cap.ren_id]
theorem IV.ren_id (x : IV) : x.ren (fun b => b) (fun r => r) = x := by
  induction x with
  | opt g x ih => unfold IV.ren; rw [ih]
  | clo fn fs cs => unfold IV.ren; rw [caps_ren_id, caps_ren_id]
  | _ => rfl
theorem ivs_ren_id (l : List IV) : l.map (·.ren (fun b => b) (fun r => r)) = l := by
  induction l with
  | nil => rfl
  | cons c l ih => rw [List.map_cons, ih, IV.ren_id]
theorem renB_id (B : BL) : renB (fun b => b) (fun r => r) B = B := by
  unfold renB
  induction B with
  | nil => rfl
  | cons x B ih => rw [List.map_cons, ih, ivs_ren_id]
theorem renR_id (R : RL) : renR (fun r => r) R = R := by
  unfold renR
  induction R with
  | nil => rfl
  | cons x B ih => rw [List.map_cons, ih]
def LentI (B : BL) (R : RL) (B0 : BL) (R0 : RL) : Prop := (∀ b x, lk b B0 = some x → lk b B = some x) ∧ ∀ r x, lk r R0 = some x → lk r R = some x
theorem LentI.lent {B : BL} {R : RL} {B0 : BL} {R0 : RL} (h : LentI B R B0 R0) : Lent B R (fun b => b) (fun r => r) B0 R0 := ⟨fun b x hx => by rw [ivs_ren_id]; exact h.1 b x hx, h.2, fun _ _ _ _ e => e, fun _ _ _ _ e => e⟩
def LentB (B : BL) : BL → Prop
  | [] => True
  | (b, x) :: l => lk b B = some x ∧ LentB B l
def LentR (R : RL) : RL → Prop
  | [] => True
  | (r, x) :: l => lk r R = some x ∧ LentR R l
theorem LentB.get {B : BL} : ∀ {B0 : BL} (_ : LentB B B0) {b : Nat} {x : Bx}, lk b B0 = some x → lk b B = some x
  | (c, y) :: l, h, b, x, hx => by
    rcases lk_cons hx with ⟨rfl, rfl⟩ | ⟨_, hx⟩
    · exact h.1
    · exact LentB.get h.2 hx
  | [], _, _, _, hx => by cases hx
theorem LentR.get {R : RL} : ∀ {R0 : RL} (_ : LentR R R0) {b : Nat} {x : Rw}, lk b R0 = some x → lk b R = some x
  | (c, y) :: l, h, b, x, hx => by
    rcases lk_cons hx with ⟨rfl, rfl⟩ | ⟨_, hx⟩
    · exact h.1
    · exact LentR.get h.2 hx
  | [], _, _, _, hx => by cases hx
section
variable {P : Program} {cx : Cx} {T : TL} {B : BL} {R : RL} {o : Oper}
def Tidy (B0 : BL) (R0 : RL) (y : IV) (B1 : BL) (R1 : RL) : Prop := names B1 = names B0 ∧ names R1 = names R0 ∧ binB (names B0) (names R0) B1 = true ∧ y.bin (names B0) (names R0) = true
theorem e_calli {ops : Array Oper} {Q : Exit → Act → World → Prop} {l : List Oper} {d : Nat} {f : FuncId} {xs : List Operand} {ts : Array TypeId} {ys : List IV} {B0 : BL} {R0 : RL} {Y : IV → BL → RL → Prop} (hg : o.guard = none) (hd : o.dst = some d) (hn : Nat.blt d cx.n = true) (ho : o.op = .call { callee := .value (.func f), args := xs.toArray, argTypes := ts }) (hc : callable P f = true)
    (hf : EG P cx.gl f ys B0 R0 Y) (hB : LentB B B0) (hR : LentR R R0) (hx : KnX T xs ys) (hY : ∀ y B1 R1, Y y B1 R1 → Tidy B0 R0 y B1 R1)
    (hE : ∀ y B1 R1, Y y B1 R1 → E cx ((d, y) :: killTL (names R0) T) (B1 ++ killBL (names R0) B) (R1 ++ R) (wpList P ops Q l)) : E cx T B R (wpList P ops Q (o :: l)) :=
  e_callx (fun b => b) (fun r => r) hg hd hn ho hc (LentI.lent ⟨fun _ _ h => hB.get h, fun _ _ h => hR.get h⟩) (by rw [ivs_ren_id]; exact hx) hf hY fun y B1 R1 hy => by
    rw [IV.ren_id, renB_id, renR_id, List.map_id']
    exact hE y B1 R1 hy
theorem e_callci {ops : Array Oper} {Q : Exit → Act → World → Prop} {l : List Oper} {d : Nat} {f : FuncId} {x : Operand} {xs : List Operand} {ts : Array TypeId} {fs cs : List Cap} {zs ys : List IV} {B0 : BL} {R0 : RL} {Y : IV → BL → RL → Prop} (hg : o.guard = none) (hd : o.dst = some d) (hn : Nat.blt d cx.n = true) (ho : o.op = .call { callee := .value x, args := xs.toArray, argTypes := ts }) (hc : callable P f = true)
    (hf : EG P cx.gl f ys B0 R0 Y) (hB : LentB B B0) (hR : LentR R R0) (hx : Kn T x (.clo (.func f) fs cs)) (hxs : KnX T xs zs) (hys : ys = fs.map Cap.iv ++ zs ++ cs.map Cap.iv) (hY : ∀ y B1 R1, Y y B1 R1 → Tidy B0 R0 y B1 R1)
    (hE : ∀ y B1 R1, Y y B1 R1 → E cx ((d, y) :: killTL (names R0) T) (B1 ++ killBL (names R0) B) (R1 ++ R) (wpList P ops Q l)) : E cx T B R (wpList P ops Q (o :: l)) :=
  e_callc (fun b => b) (fun r => r) hg hd hn ho hc (LentI.lent ⟨fun _ _ h => hB.get h, fun _ _ h => hR.get h⟩) hx hxs (by rw [ivs_ren_id]; exact hys) hf hY fun y B1 R1 hy => by
    rw [IV.ren_id, renB_id, renR_id, List.map_id']
    exact hE y B1 R1 hy
abbrev ER (P : Program) (gls : List (Nat × List Value)) (f : FuncId) (ds : List Dat) (ps : List Part) (cs : List Value) : Prop := EG P gls f (.ref ds :: ps.map .part) [] [] fun y B1 R1 => y = .part (.many (cs.map .cell)) ∧ B1 = [] ∧ R1 = []
theorem fits_cells (w : World) (D : Nat → Prop) (cs : List Value) : Fits w D (cs.map .cell) cs := by
  induction cs with
  | nil => exact Fits.nil _ _
  | cons c cs ih => exact .cons (.cell c) ih
theorem vrs_of {w : World} {D : Nat → Prop} {M : Nat → Nat} {V : Nat → Value} : ∀ {ps : List Part} {vs : List Value}, PsFit w D ps vs → VRs w D M V (ps.map .part) vs
  | [], [], _ => trivial
  | _ :: _, _ :: _, h => ⟨h.1, vrs_of h.2⟩
  | [], _ :: _, h => h.elim
  | _ :: _, [], h => h.elim
theorem bor_nil {M : Nat → Nat} {V : Nat → Value} {g : Nat} : ¬ Bor [] [] M V g := fun h => by
  rcases h with ⟨_, _, h, _⟩ | ⟨_, _, h, _⟩ <;> cases h
theorem s_callr {f : FuncId} {x : Operand} {xs : List Operand} {ts : Array TypeId} {b : Nat} {bx : Bx} {ds : List Dat} {ps : List Part} {cs : List Value} (ho : o.op = .call { callee := .value (.func f), args := (x :: xs).toArray, argTypes := ts }) (hc : callable P f = true) (hf : ER P cx.gl f ds ps cs) (hx : Kn T x (.box b 0)) (hb : lk b B = some bx) (hm : manyOf bx.cs = some ds) (hxs : KnA T xs ps) : LStep P cx B R o T (.part (.many (cs.map .cell))) := fun M V w a hh ht => by
  have hkk : ∀ y z, y ∈ x :: xs → Kn T y z → VR w (Dc cx B R M V w) M V z (a.eval y) := fun y z hm hkx => hkx w _ M V a fun t z' e hz => ht t z' (by
    subst e
    rw [ho]
    simpa [Op.operands, Call.operands] using hm) hz
  have hrun : (execOp a.eval o).run P w = .ok (.enter f ((x :: xs).map a.eval).toArray) w := by
    have he : a.eval (.func f) = .func (.func f) #[] #[] := rfl
    simp [execOp, ho, resolve, he, Deferred.ofValue, invoke, run_callable hc]
  rw [hrun]
  have hxv : a.eval x = .pointer (some ⟨M b, 0, none⟩) := hkk x _ (by simp) hx
  obtain ⟨hown, cells, hblk, hfit⟩ := hh.box b bx hb
  have hlt := hblk.lt
  have hD : ∀ g, Dc cx B R M V w g → g < w.heap.size := fun g hg => hh.dlt hg
  have hps : PsFit w (Dc cx B R M V w) ps (xs.map a.eval) := hxs.fit fun y z hm hkx => hkk y z (by simp [hm]) hkx
  have hcells : Fits w (Dc cx B R M V w) ds cells := manyOf_fit hm hfit.1 fun j y v h1 h2 => (hfit.2 j y v h1 h2).1
  let D' : Nat → Prop := fun g => Dc cx B R M V w g ∨ g = M b
  have hk := Keeps.refl (Dc cx B R M V w) w
  have hD' : ∀ g, D' g → g < w.heap.size := fun g hg => by
    rcases (show Dc cx B R M V w g ∨ g = M b from hg) with hg | rfl
    · exact hD g hg
    · exact hlt
  have hHR : HR (lcx w D' 0 cx.gl [] [] M V) [] [] M V w :=
    ⟨Bex.refl _ _, fun g hg => ⟨hD' g hg, bor_nil⟩, fun g h => (bor_nil h).elim, fun g cs hg => ⟨⟨(hh.glok g cs hg).1, bor_nil⟩, (hh.glok g cs hg).2⟩, fun _ _ h => (by cases h), fun _ _ h => (by cases h), fun _ _ _ h => (by cases h), fun _ h => (by cases h), fun _ _ _ _ h => (by cases h), fun _ _ _ _ _ h => (by cases h), fun _ _ _ _ _ h => (by cases h)⟩
  have hVR : VRs w (Dc (lcx w D' 0 cx.gl [] [] M V) [] [] M V w) M V (.ref ds :: ps.map .part) ((x :: xs).map a.eval) := by
    refine ⟨⟨M b, 0, hxv, .inl (.inr rfl), cells, hcells.stay hk fun g hg => .inl (.inl hg), fun j v hv => ?_⟩, (vrs_of hps).stay hk fun g hg => .inl (.inl hg)⟩
    rw [Nat.zero_add, hblk.cell]
    exact hv
  refine ⟨rfl, (hf w D' M V _ 0 hHR hVR).mono fun e w' ⟨v, y, B1, R1, M1, V1, h1, ⟨h2, _, _⟩, h4, h5⟩ => ?_⟩
  subst h2
  have hbl : Below w.heap.size w w' := by
    have h6 := h4.below
    have h7 : Bex (fun _ => False) w w' := ⟨h6.os, h6.tape, h6.output, h6.size, fun k hk _ => h6.block k hk bor_nil⟩
    exact h7.below
  have h8 := many_cells h5
  exact ⟨v, h1, hbl, ⟨cs, h8, fits_cells _ _ _⟩⟩
end
end Go.Proofs.YtekeanikgcpijaaDoor
