/- Part 9 of what the last text of this claim is proved by: walks over the program, and the math behind them. Conditions: as each theorem says. -/
import Derived.Test.YtekeanikgcpijaaGreatDoorST08
import Derived.Laws.Build
import Derived.Laws.Strings2
import Derived.Test.YtekeanikgcpijaaGreatDoorProg
import Derived.Laws.StructEq
namespace Go.Proofs.YtekeanikgcpijaaGreatDoor
open Go.RowKit
section
variable {P : Program} {cx : Cx} {T : TL} {B : BL} {R : RL} {o : Oper}
abbrev IV.str (l : List UInt8) : IV := .is (.string (Go.Proofs.YtekeanikgcpijaaGreatDoor.str l))
section
variable {t : TypeId} {a b : List UInt8}
theorem v_sadd (h : a.length + b.length ≤ 9223372036854775807) : BinV P .add t (.string (str a)) (.string (str b)) (.string (str (a ++ b))) := fun _ _ w => by
  have h1 : ¬ (9223372036854775807 < ((str a).size + (str b).size)) := by rw [strSize, strSize]; omega
  have h2 : ¬ ((((str a).size + (str b).size : Nat) : Int) > IntKind.i64.max) := by
    have : IntKind.i64.max = 9223372036854775807 := by decide
    rw [this]
    omega
  simp only [eqGuard, binOp, Op.stringOp]
  rw [if_neg h2, str_append]
  rfl
theorem list_beq (a b : List UInt8) : (a == b) = decide (a = b) := by
  by_cases h : a = b
  · subst h
    simp
  · rw [decide_eq_false h]
    simpa using h
theorem v_seql : BinV P .eql t (.string (str a)) (.string (str b)) (.bool (decide (a = b))) := fun _ _ w => by
  simp only [eqGuard, binOp, Op.stringOp, str_toList, list_beq]
  rfl
theorem v_sneq : BinV P .neq t (.string (str a)) (.string (str b)) (.bool (!decide (a = b))) := fun _ _ w => by
  simp only [eqGuard, binOp, Op.stringOp, str_toList, list_beq]
  rfl
end
theorem s_slen {x : Operand} {t : TypeId} {l : List UInt8} (ho : o.op = .call { callee := .builtin .len, args := #[x], argTypes := #[t] }) (hx : Kn T x (.is (.string (str l)))) (ht : P.underlying t = some .string) :
    LStep P cx B R o T (.is (.int .i64 (l.length : Int))) := LStep.same fun M V w a _ hk => by
  have h1 := (hk x _ (by simp [ho, Op.operands, Call.operands]) hx).is_eq
  exact ⟨_, by simp [execOp, ho, h1, resolve, invoke, builtin, run_len_string w t _ (str l) ht, goInt, strSize], .cell _⟩
theorem s_sindex {x i : Operand} {t : TypeId} {l : List UInt8} {k : IntKind} {z : Int} {c : UInt8} (ho : o.op = .index t x i) (hx : Kn T x (.is (.string (str l)))) (hi : Kn T i (.is (.int k z))) (hz : 0 ≤ z) (hc : l[z.toNat]? = some c) (ht : P.underlying t = some .string) :
    LStep P cx B R o T (.is (.int .u8 (c.toNat : Int))) := LStep.same fun M V w a _ hk => by
  have h1 := (hk x _ (by simp [ho, Op.operands]) hx).is_eq
  have h2 := (hk i _ (by simp [ho, Op.operands]) hi).is_eq
  have hlt := (List.getElem?_eq_some_iff.1 hc).1
  have h3 := run_index_string (P := P) w t (str l) k z ht
  rw [dif_pos ⟨hz, by rw [strSize]; omega⟩] at h3
  have h4 : (str l)[z.toNat]'(by rw [strSize]; exact hlt) = c := (List.getElem?_eq_some_iff.1 hc).2
  rw [h4] at h3
  exact ⟨_, by simp [execOp, ho, h1, h2, h3], .cell _⟩
theorem s_sslice_from {x lo : Operand} {t : TypeId} {l : List UInt8} {k : IntKind} {z : Int} (ho : o.op = .slice t x (some lo) none none) (hx : Kn T x (.is (.string (str l)))) (hl : Kn T lo (.is (.int k z))) (hz : 0 ≤ z ∧ z ≤ (l.length : Int)) (ht : P.underlying t = some .string) :
    LStep P cx B R o T (.is (.string (str (l.drop z.toNat)))) := LStep.same fun M V w a _ hk => by
  have h1 := (hk x _ (by simp [ho, Op.operands]) hx).is_eq
  have h2 := (hk lo _ (by simp [ho, Op.operands]) hl).is_eq
  have h3 := run_slice_string_from_if (P := P) w t (str l) k z ht
  rw [if_pos ⟨hz.1, by rw [strSize]; exact hz.2⟩, str_extract, strSize, List.take_of_length_le (by rw [List.length_drop]; omega)] at h3
  exact ⟨_, by simp [execOp, ho, h1, h2, run_sliceAt_string w t _ _ _ _ ht, h3], .cell _⟩
theorem s_sslice_to {x hi : Operand} {t : TypeId} {l : List UInt8} {k : IntKind} {z : Int} (ho : o.op = .slice t x none (some hi) none) (hx : Kn T x (.is (.string (str l)))) (hl : Kn T hi (.is (.int k z))) (hz : 0 ≤ z ∧ z ≤ (l.length : Int)) (ht : P.underlying t = some .string) :
    LStep P cx B R o T (.is (.string (str (l.take z.toNat)))) := LStep.same fun M V w a _ hk => by
  have h1 := (hk x _ (by simp [ho, Op.operands]) hx).is_eq
  have h2 := (hk hi _ (by simp [ho, Op.operands]) hl).is_eq
  have h3 := run_slice_string_to_if (P := P) w t (str l) k z ht
  rw [if_pos ⟨hz.1, by rw [strSize]; exact hz.2⟩, str_extract, List.drop_zero, Nat.sub_zero] at h3
  exact ⟨_, by simp [execOp, ho, h1, h2, run_sliceAt_string w t _ _ _ _ ht, h3], .cell _⟩
theorem s_iface {x : Operand} {t : TypeId} {d : Dat} (ho : o.op = .makeInterface t x) (hx : Kn T x (.part (.one d))) (ht : P.concrete t = true) : LStep P cx B R o T (.part (.one (.ifc t d))) := LStep.same fun M V w a _ hk => by
  have h1 : Lies _ _ d (a.eval x) := hk x _ (by simp [ho, Op.operands]) hx
  exact ⟨_, by simp [execOp, ho, run_makeInterface w t (a.eval x) ht], .ifc t d _ h1⟩
theorem run_equalIn_iface (n : Nat) (w : World) {t : TypeId} {ms : Array (String × TypeId)} (ht : P.underlying t = some (.interface ms)) (s : TypeId) (u : Value) : (Op.equalIn (n + 1) t (.iface s u) .nilIface).run P w = .ok false w := by
  rw [Op.equalIn, Sem.run_bind, run_underlying ht]
  rfl
theorem run_equalIn_nil (n : Nat) (w : World) {t : TypeId} {ms : Array (String × TypeId)} (ht : P.underlying t = some (.interface ms)) : (Op.equalIn (n + 1) t .nilIface .nilIface).run P w = .ok true w := by
  rw [Op.equalIn, Sem.run_bind, run_underlying ht]
  rfl
theorem run_equal_iface (w : World) {t : TypeId} {ms : Array (String × TypeId)} (ht : P.underlying t = some (.interface ms)) (s : TypeId) (u : Value) : (Op.equal t (.iface s u) .nilIface).run P w = .ok false w := run_equalIn_iface 9999 w ht s u
theorem run_equal_nil (w : World) {t : TypeId} {ms : Array (String × TypeId)} (ht : P.underlying t = some (.interface ms)) : (Op.equal t .nilIface .nilIface).run P w = .ok true w := run_equalIn_nil 9999 w ht
def Dat.iface? : Dat → Bool
  | .ifc _ _ => true
  | .cell (.iface _ _) => true
  | _ => false
theorem Lies.iface {w : World} {D : Nat → Prop} {d : Dat} {v : Value} (h : Lies w D d v) (hd : d.iface? = true) : ∃ s u, v = .iface s u := by
  cases h with
  | ifc t d v _ => exact ⟨t, v, rfl⟩
  | cell v =>
    cases v <;> first | exact ⟨_, _, rfl⟩ | cases hd
  | none => cases hd
  | row => cases hd
  | ptr => cases hd
  | map => cases hd
theorem s_err_neq {x : Operand} {t t' : TypeId} {ms : Array (String × TypeId)} {d : Dat} (ho : o.op = .binOp .neq t x (.const .nilIface) t') (hx : Kn T x (.part (.one d))) (hd : d.iface? = true) (ht : P.underlying t = some (.interface ms)) : LStep P cx B R o T (.is (.bool true)) := LStep.same fun M V w a _ hk => by
  obtain ⟨s, u, h1⟩ := Lies.iface (hk x _ (by simp [ho, Op.operands]) hx) hd
  have h2 : a.eval (.const .nilIface) = .nilIface := rfl
  exact ⟨_, by simp [execOp, ho, h1, h2, eqGuard, binOp, run_equal_iface w ht], .cell _⟩
theorem s_nil_neq {x : Operand} {t t' : TypeId} {ms : Array (String × TypeId)} (ho : o.op = .binOp .neq t x (.const .nilIface) t') (hx : Kn T x (.is .nilIface)) (ht : P.underlying t = some (.interface ms)) : LStep P cx B R o T (.is (.bool false)) := LStep.same fun M V w a _ hk => by
  have h1 := (hk x _ (by simp [ho, Op.operands]) hx).is_eq
  have h2 : a.eval (.const .nilIface) = .nilIface := rfl
  have hg := eqGuard_nil_constR (op := .neq) (t := t) (x := x) .nilIface
  exact ⟨_, by simp [execOp, ho, h1, h2, hg, binOp, run_equal_nil w ht], .cell _⟩
def Cap.iv : Cap → IV
  | .box b j => .box b j
  | .val v => .is v
def KnC (T : TL) : List Operand → List Cap → Prop
  | [], [] => True
  | x :: l, c :: m => Kn T x c.iv ∧ KnC T l m
  | _, _ => False
theorem Cap.iv_eq {w : World} {D : Nat → Prop} {M : Nat → Nat} {V : Nat → Value} {c : Cap} {v : Value} (h : VR w D M V c.iv v) : v = capV M c := by
  cases c with
  | box b j => exact h
  | val u => exact h.is_eq
theorem KnC.eq {w : World} {D : Nat → Prop} {M : Nat → Nat} {V : Nat → Value} {a : Act} : ∀ {l : List Operand} {m : List Cap}, KnC T l m → (∀ x z, x ∈ l → Kn T x z → VR w D M V z (a.eval x)) → l.map a.eval = m.map (capV M)
  | [], [], _, _ => rfl
  | x :: l, c :: m, h, hk => by
    rw [List.map_cons, List.map_cons, Cap.iv_eq (hk x _ List.mem_cons_self h.1), KnC.eq h.2 fun y z hy => hk y z (List.mem_cons_of_mem _ hy)]
  | [], _ :: _, h, _ => h.elim
  | _ :: _, [], h, _ => h.elim
theorem s_func {fn : Fn} {xs ys : List Operand} {fs cs : List Cap} (ho : o.op = .makeFunc fn xs.toArray ys.toArray) (hx : KnC T xs fs) (hy : KnC T ys cs) : LStep P cx B R o T (.clo fn fs cs) := LStep.same fun M V w a _ hk => by
  have h1 := hx.eq fun x z hm hkx => hk x z (by simp [ho, Op.operands]; exact .inl hm) hkx
  have h2 := hy.eq fun x z hm hkx => hk x z (by simp [ho, Op.operands]; exact .inr hm) hkx
  refine ⟨_, ?_, rfl⟩
  unfold execOp
  simp only [ho, List.map_toArray]
  simp only [Instr.makeFunc, h1, h2]
  rfl
theorem caps_VRs {w : World} {D : Nat → Prop} {M : Nat → Nat} {V : Nat → Value} : ∀ cs : List Cap, VRs w D M V (cs.map Cap.iv) (cs.map (capV M))
  | [] => trivial
  | .box _ _ :: cs => ⟨rfl, caps_VRs cs⟩
  | .val v :: cs => ⟨Lies.cell v, caps_VRs cs⟩
theorem VRs.append {w : World} {D : Nat → Prop} {M : Nat → Nat} {V : Nat → Value} : ∀ {xs ys : List IV} {us vs : List Value}, VRs w D M V xs us → VRs w D M V ys vs → VRs w D M V (xs ++ ys) (us ++ vs)
  | [], _, [], _, _, h => h
  | _ :: _, _, _ :: _, _, h1, h2 => ⟨h1.1, VRs.append h1.2 h2⟩
  | [], _, _ :: _, _, h, _ => h.elim
  | _ :: _, _, [], _, h, _ => h.elim
theorem e_callc {ops : Array Oper} {Q : Exit → Act → World → Prop} {l : List Oper} {d : Nat} {f : FuncId} {x : Operand} {xs : List Operand} {ts : Array TypeId} {fs cs : List Cap} {zs ys : List IV} (ρ σ : Nat → Nat) {B0 : BL} {R0 : RL} {Y : IV → BL → RL → Prop} (hg : o.guard = none) (hd : o.dst = some d) (hn : Nat.blt d cx.n = true) (ho : o.op = .call { callee := .value x, args := xs.toArray, argTypes := ts }) (hc : callable P f = true) (hL : Lent B R ρ σ B0 R0)
    (hx : Kn T x (.clo (.func f) fs cs)) (hxs : KnX T xs zs) (hys : ys.map (·.ren ρ σ) = fs.map Cap.iv ++ zs ++ cs.map Cap.iv) (hf : EG P cx.gl f ys B0 R0 Y)
    (hY : ∀ y B1 R1, Y y B1 R1 → names B1 = names B0 ∧ names R1 = names R0 ∧ binB (names B0) (names R0) B1 = true ∧ y.bin (names B0) (names R0) = true)
    (hE : ∀ y B1 R1, Y y B1 R1 → E cx ((d, y.ren ρ σ) :: killTL ((names R0).map σ) T) (renB ρ σ B1 ++ killBL ((names R0).map σ) B) (renR σ R1 ++ R) (wpList P ops Q l)) : E cx T B R (wpList P ops Q (o :: l)) := fun M V a w hr => by
  refine wpList_plain hg fun K hK => ?_
  have h1 : a.eval x = .func (.func f) (fs.map (capV M)).toArray (cs.map (capV M)).toArray := hx w (Dc cx B R M V w) M V a fun t z _ hz => hr.tmp t z hz
  have hrun : (execOp a.eval o).run P w = .ok (.enter f (fs.map (capV M) ++ xs.map a.eval ++ cs.map (capV M)).toArray) w := by
    simp [execOp, ho, resolve, h1, Deferred.ofValue, invoke, run_callable hc]
  have hv : VRs w (Dc cx B R M V w) M V (ys.map (·.ren ρ σ)) (fs.map (capV M) ++ xs.map a.eval ++ cs.map (capV M)) := by
    rw [hys]
    exact ((caps_VRs fs).append (hxs.vrs fun t z hz => hr.tmp t z hz)).append (caps_VRs cs)
  unfold Oper.wp
  rw [hrun]
  simp only [Oper.upon, hd]
  exact (calls_back hr hL hv hf hY (blt_lt hn)).mono fun e w' ⟨v, y, B1, R1, V', h1, h2, h3⟩ => by
    subst h1
    exact hK _ _ (hE y B1 R1 h2 M V' _ _ h3)
theorem e_guard {ops : Array Oper} {Q : Exit → Act → World → Prop} {l : List Oper} {d : Nat} {g : Bool} (hg : gk ops T o = some g) (hd : o.dst = some d) (hn : Nat.blt d cx.n = true) (h1 : g = true → E cx T B R (wpList P ops Q ({ o with guard := none } :: l))) (h0 : g = false → E cx ((d, .is undef) :: T) B R (wpList P ops Q l)) : E cx T B R (wpList P ops Q (o :: l)) := fun M V a w hr => by
  have hw := gk_wanted hg fun t z v _ hz hv => whole_of hv (hr.tmp t z hz)
  cases g with
  | false =>
    refine wpList_step fun K hK => ?_
    rw [hw, if_neg (by simp)]
    refine hK _ _ (h0 rfl M V _ w ?_)
    rw [hd]
    exact hr.put (Below.refl _ _) (blt_lt hn) (Lies.cell undef)
  | true =>
    have h2 := h1 rfl M V a w hr
    unfold wpList at h2 ⊢
    rw [if_pos (by simp [Region.wanted])] at h2
    rw [if_pos hw]
    exact h2
theorem e_boxi {ops : Array Oper} {Q : Exit → Act → World → Prop} {l : List Oper} {d : Nat} {ty : TypeId} {x : Operand} {y : IV} (b : Nat) (hg : o.guard = none) (hd : o.dst = some d) (hn : Nat.blt d cx.n = true) (ho : o.op = .box ty x) (hx : Kn T x y) (h1 : y.isOne = true)
    (hpn : cx.pn.all (fun c => !Nat.beq c b) = true) (hT : nobT b T = true) (hB : nobB b B = true) (hy : y.nob b = true) (hE : E cx ((d, .box b 0) :: T) ((b, ⟨ty, [y]⟩) :: B) R (wpList P ops Q l)) : E cx T B R (wpList P ops Q (o :: l)) := fun M V a w hr => by
  refine wpList_plain hg fun K hK => ?_
  have hv := hx w (Dc cx B R M V w) M V a fun t z _ hz => hr.tmp t z hz
  have hone := hv.one h1
  have hcl : (a.eval x).cells = #[a.eval x] := by
    revert hone
    generalize a.eval x = v
    intro h
    cases v <;> first | rfl | cases h
  have hc : CFit w (Dc cx B R M V w) M V [y] [a.eval x] := ⟨rfl, fun j z v hz hvv => by
    cases j with
    | zero =>
      simp at hz hvv
      subst hz
      subst hvv
      exact ⟨hv, hone⟩
    | succ j => simp at hz⟩
  obtain ⟨M', hr'⟩ := hr.alloc b ty hpn hT hB (by simp [hy]) hc (d := d) (blt_lt hn)
  have := hK _ _ (hE M' V _ _ hr')
  unfold Oper.wp execOp
  simp only [ho, Sem.run_bind]
  simp [Instr.box, newVar, newRow, hcl, Oper.upon, hd]
  exact this
def remB (b : Nat) : BL → BL
  | [] => []
  | (c, x) :: l => bif Nat.beq c b then remB b l else (c, x) :: remB b l
theorem remB_get {b c : Nat} {x : Bx} : ∀ {B : BL}, lk c (remB b B) = some x → c ≠ b ∧ lk c B = some x
  | [], h => by cases h
  | (e, y) :: l, h => by
    simp only [remB] at h
    cases hb : Nat.beq e b with
    | true =>
      rw [hb] at h
      obtain ⟨h1, h2⟩ := remB_get (B := l) h
      have := Nat.eq_of_beq_eq_true hb
      exact ⟨h1, (lk_cons_ne _ _ (by rw [this]; exact Ne.symm h1)).trans h2⟩
    | false =>
      rw [hb] at h
      rcases lk_cons h with ⟨rfl, rfl⟩ | ⟨hne, h⟩
      · exact ⟨fun e => by subst e; simp at hb, lk_cons_eq _ _ _⟩
      · obtain ⟨h1, h2⟩ := remB_get (B := l) h
        exact ⟨h1, (lk_cons_ne _ _ hne).trans h2⟩
theorem e_data {K : Act → World → Prop} (t b : Nat) {bx : Bx} {ds : List Dat} (hx : lk t T = some (.box b 0)) (hb : lk b B = some bx) (hm : manyOf bx.cs = some ds) (h : E cx ((t, .part (.one (.ptr bx.ty ds))) :: T) (remB b B) R K) : E cx T B R K := fun M V a w hr => by
  have hh := hr.heap
  have hk := Keeps.refl (Dc cx B R M V w) w
  have hD : ∀ g, Dc cx B R M V w g → Dc cx (remB b B) R M V w g := fun g hg => by
    rcases hg with hg | ⟨a1, a2, a3, a4⟩
    · exact .inl hg
    · exact .inr ⟨a1, a2, fun c x hx => a3 c x (remB_get hx).2, a4⟩
  refine h M V a w ⟨hr.size, hr.defers, ⟨hh.below, hh.d0, hh.bl, hh.gl, fun c x hx => ?_, fun r x hx => ?_, hh.ro, hh.pin, fun c e x y hx hy he => hh.bb c e x y (remB_get hx).2 (remB_get hy).2 he, fun c r x y g hx hy hf hg => hh.br c r x y g (remB_get hx).2 hy hf hg, hh.rr⟩, fun s z hz => ?_⟩
  · obtain ⟨a1, cs, a2, a3⟩ := hh.box c x (remB_get hx).2
    exact ⟨a1, cs, a2, a3.stay hk hD⟩
  · have h1 := hh.row r x hx
    split
    · rename_i hf
      rw [if_pos hf] at h1
      exact h1.stay hk hD
    · rename_i hf
      rw [if_neg hf] at h1
      obtain ⟨xs, a2, a3⟩ := h1
      exact ⟨xs, a2, a3.stay hk hD⟩
  · rcases lk_cons hz with ⟨rfl, rfl⟩ | ⟨_, hz⟩
    · obtain ⟨a1, cs, a2, a3⟩ := hh.box b bx hb
      have hf : Fits w (Dc cx B R M V w) ds cs := manyOf_fit hm a3.1 fun j y v hy hv => (a3.2 j y v hy hv).1
      have hp : a.tmps.getD t undef = .pointer (some ⟨M b, 0, none⟩) := hr.tmp t _ hx
      show Lies w _ (.ptr bx.ty ds) _
      rw [hp]
      refine .ptr (M b) bx.ty ds cs (.inr ⟨a1, a2.lt, fun c x hx e => ?_, fun r x hx hf' e => ?_⟩) a2 hf.1 fun j d v hd hv => (hf.2 j d v hd hv).stay hk hD
      · exact (remB_get hx).1 (hh.bb c b x bx (remB_get hx).2 hb e)
      · exact hh.br b r bx x (M b) hb hx hf' e rfl
    · exact (hr.tmp s z hz).stay hk hD
end
end Go.Proofs.YtekeanikgcpijaaGreatDoor
namespace Go.Proofs.YtekeanikgcpijaaGreatDoor
section
variable {P : Program} {cx : Cx} {T T' : TL} {B : BL} {R : RL} {ops : Array Oper} {Q : Exit → Act → World → Prop} {o : Oper} {l : List Oper} {d : Nat} {y : IV} {x : Operand} {ys : List IV}
theorem l_op (h : LStep P cx B R o T y) (hE : E cx ((d, y) :: T) B R (wpList P ops Q l)) (hg : o.guard = none := by exact rfl) (hd : o.dst = some d := by exact rfl) (hn : Nat.blt d cx.n = true := by exact rfl) : E cx T B R (wpList P ops Q (o :: l)) := e_list_op hg hd hn h hE
theorem l_mv (hE : E cx ((d, y) :: T) B R (wpList P ops Q l)) (hg : o.guard = none := by exact rfl) (hd : o.dst = some d := by exact rfl) (hn : Nat.blt d cx.n = true := by exact rfl) (ho : o.op = .move x := by exact rfl) (hk : ev T x = some y := by exact rfl) : E cx T B R (wpList P ops Q (o :: l)) := e_list_op hg hd hn (s_move ho (kn hk)) hE
theorem l_as (hE : E cx ((d, y) :: T) B R (wpList P ops Q l)) (hg : o.guard = none := by exact rfl) (hd : o.dst = some d := by exact rfl) (hn : Nat.blt d cx.n = true := by exact rfl) (ho : o.op = .assign x := by exact rfl) (hk : ev T x = some y := by exact rfl) : E cx T B R (wpList P ops Q (o :: l)) := e_list_op hg hd hn (s_assign ho (kn hk)) hE
theorem l_ex {i : Nat} {ps : List Part} {p : Part} (hE : E cx ((d, .part p) :: T) B R (wpList P ops Q l)) (hg : o.guard = none := by exact rfl) (hd : o.dst = some d := by exact rfl) (hn : Nat.blt d cx.n = true := by exact rfl) (ho : o.op = .extract x i := by exact rfl) (hk : ev T x = some (.tup ps) := by exact rfl) (hi : ps[i]? = some p := by exact rfl) : E cx T B R (wpList P ops Q (o :: l)) := e_list_op hg hd hn (s_extract ho (kn hk) hi) hE
theorem w_op (hg : o.guard = none) (hd : o.dst = some d) (hn : Nat.blt d cx.n = true) (h : LStep P cx B R o T y) (hW : Walk P cx B R ops l ((d, y) :: T) ys T') : Walk P cx B R ops (o :: l) T (y :: ys) T' := .op hg hd hn h hW
theorem w_mv (hg : o.guard = none) (hd : o.dst = some d) (hn : Nat.blt d cx.n = true) (ho : o.op = .move x) (hk : ev T x = some y) (hW : Walk P cx B R ops l ((d, y) :: T) ys T') : Walk P cx B R ops (o :: l) T (y :: ys) T' := .op hg hd hn (s_move ho (kn hk)) hW
theorem w_as (hg : o.guard = none) (hd : o.dst = some d) (hn : Nat.blt d cx.n = true) (ho : o.op = .assign x) (hk : ev T x = some y) (hW : Walk P cx B R ops l ((d, y) :: T) ys T') : Walk P cx B R ops (o :: l) T (y :: ys) T' := .op hg hd hn (s_assign ho (kn hk)) hW
theorem s_t {t : Nat} (h : lk t T = some y := by exact rfl) : ∃ z, lk t T = some z ∧ Imp z y := sub_refl y h
theorem s_b {b : Nat} {z : Bx} (h : lk b B = some z := by exact rfl) : ∃ u, lk b B = some u ∧ u.ty = z.ty ∧ ImpL u.cs z.cs := sb_refl z h
theorem c_no {c : Operand} {a b : Code} (h : E cx T B R (b.wp P Q)) (hc : ev T c = some (.is (.bool false)) := by exact rfl) : E cx T B R ((Code.cond c a b).wp P Q) := e_cond hc (fun h => (by cases h)) fun _ => h
theorem c_yes {c : Operand} {a b : Code} (h : E cx T B R (a.wp P Q)) (hc : ev T c = some (.is (.bool true)) := by exact rfl) : E cx T B R ((Code.cond c a b).wp P Q) := e_cond hc (fun _ => h) fun h => (by cases h)
end
end Go.Proofs.YtekeanikgcpijaaGreatDoor
namespace Go.Proofs.YtekeanikgcpijaaGreatDoor
open Go.RowKit
theorem one_3 : oneT Tryz.prog 3 = true := by kernel_rfl
theorem sz_3 : sizeT Tryz.prog 3 = some 1 := by kernel_rfl
theorem int_3 : Tryz.prog.underlying 3 = some (.int .i64) := by kernel_rfl
theorem one_4 : oneT Tryz.prog 4 = true := by kernel_rfl
theorem sz_4 : sizeT Tryz.prog 4 = some 1 := by kernel_rfl
theorem bool_4 : Tryz.prog.underlying 4 = some .bool := by kernel_rfl
theorem zr_4 : zeroT Tryz.prog 4 = some [.bool false] := by kernel_rfl
theorem one_9 : oneT Tryz.prog 9 = true := by kernel_rfl
theorem sz_9 : sizeT Tryz.prog 9 = some 1 := by kernel_rfl
theorem str_9 : Tryz.prog.underlying 9 = some .string := by kernel_rfl
theorem zr_9 : zeroT Tryz.prog 9 = some [.string ⟨#[]⟩] := by kernel_rfl
theorem one_23 : oneT Tryz.prog 23 = true := by kernel_rfl
theorem sz_23 : sizeT Tryz.prog 23 = some 1 := by kernel_rfl
theorem sl_23 : Tryz.prog.underlying 23 = some (.slice 62) := by kernel_rfl
theorem sle_23 : Tryz.prog.underlying 23 = some (.slice (Tryz.prog.elem 23)) := by kernel_rfl
theorem esz_23 : sizeT Tryz.prog (Tryz.prog.elem 23) = some 9 := by kernel_rfl
theorem ap_23 : (Tryz.prog.info? 62).map (fun i => (i.size, i.bytes, i.zero.map (·.cells.size))) = some (9, 176, some 9) := by kernel_rfl
theorem one_24 : oneT Tryz.prog 24 = true := by kernel_rfl
theorem sz_24 : sizeT Tryz.prog 24 = some 1 := by kernel_rfl
theorem sl_24 : Tryz.prog.underlying 24 = some (.slice 82) := by kernel_rfl
theorem sle_24 : Tryz.prog.underlying 24 = some (.slice (Tryz.prog.elem 24)) := by kernel_rfl
theorem esz_24 : sizeT Tryz.prog (Tryz.prog.elem 24) = some 4 := by kernel_rfl
theorem ap_24 : (Tryz.prog.info? 82).map (fun i => (i.size, i.bytes, i.zero.map (·.cells.size))) = some (4, 56, some 4) := by kernel_rfl
theorem agg_26 : aggT Tryz.prog 26 = true := by kernel_rfl
theorem sz_26 : sizeT Tryz.prog 26 = some 3 := by kernel_rfl
theorem off_26_0 : foff Tryz.prog 26 0 = some 0 := by kernel_rfl
theorem off_26_1 : foff Tryz.prog 26 1 = some 1 := by kernel_rfl
theorem off_26_2 : foff Tryz.prog 26 2 = some 2 := by kernel_rfl
theorem pl_26 : placesT Tryz.prog 26 = some [(0, 1), (1, 1), (2, 1)] := by kernel_rfl
theorem zr_26 : zeroT Tryz.prog 26 = some [.string ⟨#[]⟩, .slice none 0 0, .slice none 0 0] := by kernel_rfl
theorem one_28 : oneT Tryz.prog 28 = true := by kernel_rfl
noncomputable def ifcms_28 : Array (String × TypeId) := match Tryz.prog.underlying 28 with | some (.interface ms) => ms | _ => #[]
theorem ifc_28 : Tryz.prog.underlying 28 = some (.interface ifcms_28) := by kernel_rfl
theorem sl_34 : Tryz.prog.underlying 34 = some (.slice 48) := by kernel_rfl
theorem sle_34 : Tryz.prog.underlying 34 = some (.slice (Tryz.prog.elem 34)) := by kernel_rfl
theorem esz_34 : sizeT Tryz.prog (Tryz.prog.elem 34) = some 5 := by kernel_rfl
theorem ap_34 : (Tryz.prog.info? 48).map (fun i => (i.size, i.bytes, i.zero.map (·.cells.size))) = some (5, 48, some 5) := by kernel_rfl
theorem one_37 : oneT Tryz.prog 37 = true := by kernel_rfl
theorem sz_37 : sizeT Tryz.prog 37 = some 1 := by kernel_rfl
theorem sl_37 : Tryz.prog.underlying 37 = some (.slice 78) := by kernel_rfl
theorem sle_37 : Tryz.prog.underlying 37 = some (.slice (Tryz.prog.elem 37)) := by kernel_rfl
theorem esz_37 : sizeT Tryz.prog (Tryz.prog.elem 37) = some 9 := by kernel_rfl
theorem ap_37 : (Tryz.prog.info? 78).map (fun i => (i.size, i.bytes, i.zero.map (·.cells.size))) = some (9, 176, some 9) := by kernel_rfl
theorem one_38 : oneT Tryz.prog 38 = true := by kernel_rfl
theorem sz_38 : sizeT Tryz.prog 38 = some 1 := by kernel_rfl
theorem sl_38 : Tryz.prog.underlying 38 = some (.slice 85) := by kernel_rfl
theorem sle_38 : Tryz.prog.underlying 38 = some (.slice (Tryz.prog.elem 38)) := by kernel_rfl
theorem esz_38 : sizeT Tryz.prog (Tryz.prog.elem 38) = some 4 := by kernel_rfl
theorem ap_38 : (Tryz.prog.info? 85).map (fun i => (i.size, i.bytes, i.zero.map (·.cells.size))) = some (4, 56, some 4) := by kernel_rfl
theorem agg_40 : aggT Tryz.prog 40 = true := by kernel_rfl
theorem sz_40 : sizeT Tryz.prog 40 = some 3 := by kernel_rfl
theorem off_40_0 : foff Tryz.prog 40 0 = some 0 := by kernel_rfl
theorem off_40_1 : foff Tryz.prog 40 1 = some 1 := by kernel_rfl
theorem off_40_2 : foff Tryz.prog 40 2 = some 2 := by kernel_rfl
theorem pl_40 : placesT Tryz.prog 40 = some [(0, 1), (1, 1), (2, 1)] := by kernel_rfl
theorem zr_40 : zeroT Tryz.prog 40 = some [.string ⟨#[]⟩, .slice none 0 0, .slice none 0 0] := by kernel_rfl
theorem sl_43 : Tryz.prog.underlying 43 = some (.slice 47) := by kernel_rfl
theorem sle_43 : Tryz.prog.underlying 43 = some (.slice (Tryz.prog.elem 43)) := by kernel_rfl
theorem esz_43 : sizeT Tryz.prog (Tryz.prog.elem 43) = some 5 := by kernel_rfl
theorem ap_43 : (Tryz.prog.info? 47).map (fun i => (i.size, i.bytes, i.zero.map (·.cells.size))) = some (5, 48, some 5) := by kernel_rfl
theorem one_45 : oneT Tryz.prog 45 = true := by kernel_rfl
theorem sz_45 : sizeT Tryz.prog 45 = some 1 := by kernel_rfl
theorem sl_45 : Tryz.prog.underlying 45 = some (.slice 9) := by kernel_rfl
theorem sle_45 : Tryz.prog.underlying 45 = some (.slice (Tryz.prog.elem 45)) := by kernel_rfl
theorem esz_45 : sizeT Tryz.prog (Tryz.prog.elem 45) = some 1 := by kernel_rfl
theorem ap_45 : (Tryz.prog.info? 9).map (fun i => (i.size, i.bytes, i.zero.map (·.cells.size))) = some (1, 16, some 1) := by kernel_rfl
theorem agg_47 : aggT Tryz.prog 47 = true := by kernel_rfl
theorem sz_47 : sizeT Tryz.prog 47 = some 5 := by kernel_rfl
theorem off_47_0 : foff Tryz.prog 47 0 = some 0 := by kernel_rfl
theorem off_47_1 : foff Tryz.prog 47 1 = some 1 := by kernel_rfl
theorem off_47_2 : foff Tryz.prog 47 2 = some 2 := by kernel_rfl
theorem off_47_3 : foff Tryz.prog 47 3 = some 3 := by kernel_rfl
theorem off_47_4 : foff Tryz.prog 47 4 = some 4 := by kernel_rfl
theorem pl_47 : placesT Tryz.prog 47 = some [(0, 1), (1, 1), (2, 1), (3, 1), (4, 1)] := by kernel_rfl
theorem zr_47 : zeroT Tryz.prog 47 = some [.string ⟨#[]⟩, .bool false, .int .i64 0, .int .i64 0, .int .i64 0] := by kernel_rfl
theorem agg_48 : aggT Tryz.prog 48 = true := by kernel_rfl
theorem sz_48 : sizeT Tryz.prog 48 = some 5 := by kernel_rfl
theorem off_48_0 : foff Tryz.prog 48 0 = some 0 := by kernel_rfl
theorem off_48_1 : foff Tryz.prog 48 1 = some 1 := by kernel_rfl
theorem off_48_2 : foff Tryz.prog 48 2 = some 2 := by kernel_rfl
theorem off_48_3 : foff Tryz.prog 48 3 = some 3 := by kernel_rfl
theorem off_48_4 : foff Tryz.prog 48 4 = some 4 := by kernel_rfl
theorem pl_48 : placesT Tryz.prog 48 = some [(0, 1), (1, 1), (2, 1), (3, 1), (4, 1)] := by kernel_rfl
theorem zr_48 : zeroT Tryz.prog 48 = some [.string ⟨#[]⟩, .bool false, .int .i64 0, .int .i64 0, .int .i64 0] := by kernel_rfl
theorem one_59 : oneT Tryz.prog 59 = true := by kernel_rfl
theorem sz_59 : sizeT Tryz.prog 59 = some 1 := by kernel_rfl
theorem sl_59 : Tryz.prog.underlying 59 = some (.slice 110) := by kernel_rfl
theorem sle_59 : Tryz.prog.underlying 59 = some (.slice (Tryz.prog.elem 59)) := by kernel_rfl
theorem esz_59 : sizeT Tryz.prog (Tryz.prog.elem 59) = some 10 := by kernel_rfl
theorem ap_59 : (Tryz.prog.info? 110).map (fun i => (i.size, i.bytes, i.zero.map (·.cells.size))) = some (10, 112, some 10) := by kernel_rfl
theorem one_60 : oneT Tryz.prog 60 = true := by kernel_rfl
theorem sz_60 : sizeT Tryz.prog 60 = some 1 := by kernel_rfl
theorem sl_60 : Tryz.prog.underlying 60 = some (.slice 113) := by kernel_rfl
theorem sle_60 : Tryz.prog.underlying 60 = some (.slice (Tryz.prog.elem 60)) := by kernel_rfl
theorem esz_60 : sizeT Tryz.prog (Tryz.prog.elem 60) = some 2 := by kernel_rfl
theorem ap_60 : (Tryz.prog.info? 113).map (fun i => (i.size, i.bytes, i.zero.map (·.cells.size))) = some (2, 16, some 2) := by kernel_rfl
theorem agg_62 : aggT Tryz.prog 62 = true := by kernel_rfl
theorem sz_62 : sizeT Tryz.prog 62 = some 9 := by kernel_rfl
theorem off_62_0 : foff Tryz.prog 62 0 = some 0 := by kernel_rfl
theorem off_62_1 : foff Tryz.prog 62 1 = some 1 := by kernel_rfl
theorem off_62_2 : foff Tryz.prog 62 2 = some 2 := by kernel_rfl
theorem off_62_3 : foff Tryz.prog 62 3 = some 3 := by kernel_rfl
theorem off_62_4 : foff Tryz.prog 62 4 = some 4 := by kernel_rfl
theorem off_62_5 : foff Tryz.prog 62 5 = some 5 := by kernel_rfl
theorem off_62_6 : foff Tryz.prog 62 6 = some 6 := by kernel_rfl
theorem off_62_7 : foff Tryz.prog 62 7 = some 7 := by kernel_rfl
theorem off_62_8 : foff Tryz.prog 62 8 = some 8 := by kernel_rfl
theorem pl_62 : placesT Tryz.prog 62 = some [(0, 1), (1, 1), (2, 1), (3, 1), (4, 1), (5, 1), (6, 1), (7, 1), (8, 1)] := by kernel_rfl
theorem zr_62 : zeroT Tryz.prog 62 = some [.string ⟨#[]⟩, .slice none 0 0, .slice none 0 0, .slice none 0 0, .slice none 0 0, .slice none 0 0, .slice none 0 0, .int .i64 0, .int .i64 0] := by kernel_rfl
theorem one_63 : oneT Tryz.prog 63 = true := by kernel_rfl
theorem sle_63 : Tryz.prog.underlying 63 = some (.slice (Tryz.prog.elem 63)) := by kernel_rfl
theorem esz_63 : sizeT Tryz.prog (Tryz.prog.elem 63) = some 5 := by kernel_rfl
theorem one_67 : oneT Tryz.prog 67 = true := by kernel_rfl
theorem one_68 : oneT Tryz.prog 68 = true := by kernel_rfl
theorem off_71_0 : foff Tryz.prog 71 0 = some 0 := by kernel_rfl
theorem off_71_1 : foff Tryz.prog 71 1 = some 200 := by kernel_rfl
theorem off_71_2 : foff Tryz.prog 71 2 = some 201 := by kernel_rfl
theorem off_71_3 : foff Tryz.prog 71 3 = some 202 := by kernel_rfl
theorem pl_71 : placesT Tryz.prog 71 = some [(0, 200), (200, 1), (201, 1), (202, 1)] := by kernel_rfl
theorem one_75 : oneT Tryz.prog 75 = true := by kernel_rfl
theorem sz_75 : sizeT Tryz.prog 75 = some 1 := by kernel_rfl
theorem sl_75 : Tryz.prog.underlying 75 = some (.slice 111) := by kernel_rfl
theorem ap_75 : (Tryz.prog.info? 111).map (fun i => (i.size, i.bytes, i.zero.map (·.cells.size))) = some (10, 112, some 10) := by kernel_rfl
theorem one_76 : oneT Tryz.prog 76 = true := by kernel_rfl
theorem sz_76 : sizeT Tryz.prog 76 = some 1 := by kernel_rfl
theorem sl_76 : Tryz.prog.underlying 76 = some (.slice 114) := by kernel_rfl
theorem ap_76 : (Tryz.prog.info? 114).map (fun i => (i.size, i.bytes, i.zero.map (·.cells.size))) = some (2, 16, some 2) := by kernel_rfl
theorem agg_78 : aggT Tryz.prog 78 = true := by kernel_rfl
theorem sz_78 : sizeT Tryz.prog 78 = some 9 := by kernel_rfl
theorem off_78_0 : foff Tryz.prog 78 0 = some 0 := by kernel_rfl
theorem off_78_1 : foff Tryz.prog 78 1 = some 1 := by kernel_rfl
theorem off_78_3 : foff Tryz.prog 78 3 = some 3 := by kernel_rfl
theorem off_78_4 : foff Tryz.prog 78 4 = some 4 := by kernel_rfl
theorem off_78_5 : foff Tryz.prog 78 5 = some 5 := by kernel_rfl
theorem off_78_7 : foff Tryz.prog 78 7 = some 7 := by kernel_rfl
theorem off_78_8 : foff Tryz.prog 78 8 = some 8 := by kernel_rfl
theorem pl_78 : placesT Tryz.prog 78 = some [(0, 1), (1, 1), (2, 1), (3, 1), (4, 1), (5, 1), (6, 1), (7, 1), (8, 1)] := by kernel_rfl
theorem zr_78 : zeroT Tryz.prog 78 = some [.string ⟨#[]⟩, .slice none 0 0, .slice none 0 0, .slice none 0 0, .slice none 0 0, .slice none 0 0, .slice none 0 0, .int .i64 0, .int .i64 0] := by kernel_rfl
theorem one_80 : oneT Tryz.prog 80 = true := by kernel_rfl
theorem sz_80 : sizeT Tryz.prog 80 = some 1 := by kernel_rfl
theorem sl_80 : Tryz.prog.underlying 80 = some (.slice 116) := by kernel_rfl
theorem sle_80 : Tryz.prog.underlying 80 = some (.slice (Tryz.prog.elem 80)) := by kernel_rfl
theorem esz_80 : sizeT Tryz.prog (Tryz.prog.elem 80) = some 4 := by kernel_rfl
theorem ap_80 : (Tryz.prog.info? 116).map (fun i => (i.size, i.bytes, i.zero.map (·.cells.size))) = some (4, 40, some 4) := by kernel_rfl
theorem agg_82 : aggT Tryz.prog 82 = true := by kernel_rfl
theorem sz_82 : sizeT Tryz.prog 82 = some 4 := by kernel_rfl
theorem off_82_0 : foff Tryz.prog 82 0 = some 0 := by kernel_rfl
theorem off_82_1 : foff Tryz.prog 82 1 = some 1 := by kernel_rfl
theorem off_82_2 : foff Tryz.prog 82 2 = some 2 := by kernel_rfl
theorem off_82_3 : foff Tryz.prog 82 3 = some 3 := by kernel_rfl
theorem pl_82 : placesT Tryz.prog 82 = some [(0, 1), (1, 1), (2, 1), (3, 1)] := by kernel_rfl
theorem zr_82 : zeroT Tryz.prog 82 = some [.string ⟨#[]⟩, .slice none 0 0, .int .i64 0, .int .i64 0] := by kernel_rfl
theorem one_83 : oneT Tryz.prog 83 = true := by kernel_rfl
theorem sz_83 : sizeT Tryz.prog 83 = some 1 := by kernel_rfl
theorem sl_83 : Tryz.prog.underlying 83 = some (.slice 117) := by kernel_rfl
theorem ap_83 : (Tryz.prog.info? 117).map (fun i => (i.size, i.bytes, i.zero.map (·.cells.size))) = some (4, 40, some 4) := by kernel_rfl
theorem agg_85 : aggT Tryz.prog 85 = true := by kernel_rfl
theorem sz_85 : sizeT Tryz.prog 85 = some 4 := by kernel_rfl
theorem off_85_0 : foff Tryz.prog 85 0 = some 0 := by kernel_rfl
theorem off_85_1 : foff Tryz.prog 85 1 = some 1 := by kernel_rfl
theorem off_85_2 : foff Tryz.prog 85 2 = some 2 := by kernel_rfl
theorem off_85_3 : foff Tryz.prog 85 3 = some 3 := by kernel_rfl
theorem pl_85 : placesT Tryz.prog 85 = some [(0, 1), (1, 1), (2, 1), (3, 1)] := by kernel_rfl
theorem zr_85 : zeroT Tryz.prog 85 = some [.string ⟨#[]⟩, .slice none 0 0, .int .i64 0, .int .i64 0] := by kernel_rfl
theorem pl_98 : placesT Tryz.prog 98 = some [(0, 1), (1, 1), (2, 1)] := by kernel_rfl
theorem zr_98 : zeroT Tryz.prog 98 = some [.int .i64 0, .int .i64 0, .nilIface] := by kernel_rfl
theorem agg_100 : aggT Tryz.prog 100 = true := by kernel_rfl
theorem sz_100 : sizeT Tryz.prog 100 = some 5 := by kernel_rfl
theorem off_100_0 : foff Tryz.prog 100 0 = some 0 := by kernel_rfl
theorem off_100_1 : foff Tryz.prog 100 1 = some 1 := by kernel_rfl
theorem off_100_2 : foff Tryz.prog 100 2 = some 2 := by kernel_rfl
theorem off_100_3 : foff Tryz.prog 100 3 = some 3 := by kernel_rfl
theorem off_100_4 : foff Tryz.prog 100 4 = some 4 := by kernel_rfl
theorem pl_100 : placesT Tryz.prog 100 = some [(0, 1), (1, 1), (2, 1), (3, 1), (4, 1)] := by kernel_rfl
theorem zr_100 : zeroT Tryz.prog 100 = some [.int .i64 0, .string ⟨#[]⟩, .int .i64 0, .int .i64 0, .int .i64 0] := by kernel_rfl
theorem sz_106 : sizeT Tryz.prog 106 = some 2 := by kernel_rfl
theorem off_106_0 : foff Tryz.prog 106 0 = some 0 := by kernel_rfl
theorem off_106_1 : foff Tryz.prog 106 1 = some 1 := by kernel_rfl
theorem pl_106 : placesT Tryz.prog 106 = some [(0, 1), (1, 1)] := by kernel_rfl
theorem zr_106 : zeroT Tryz.prog 106 = some [.slice none 0 0, .int .i64 0] := by kernel_rfl
theorem agg_110 : aggT Tryz.prog 110 = true := by kernel_rfl
theorem sz_110 : sizeT Tryz.prog 110 = some 10 := by kernel_rfl
theorem off_110_0 : foff Tryz.prog 110 0 = some 0 := by kernel_rfl
theorem off_110_1 : foff Tryz.prog 110 1 = some 1 := by kernel_rfl
theorem off_110_2 : foff Tryz.prog 110 2 = some 2 := by kernel_rfl
theorem off_110_3 : foff Tryz.prog 110 3 = some 3 := by kernel_rfl
theorem off_110_5 : foff Tryz.prog 110 5 = some 5 := by kernel_rfl
theorem off_110_6 : foff Tryz.prog 110 6 = some 6 := by kernel_rfl
theorem off_110_8 : foff Tryz.prog 110 8 = some 8 := by kernel_rfl
theorem off_110_9 : foff Tryz.prog 110 9 = some 9 := by kernel_rfl
theorem pl_110 : placesT Tryz.prog 110 = some [(0, 1), (1, 1), (2, 1), (3, 1), (4, 1), (5, 1), (6, 1), (7, 1), (8, 1), (9, 1)] := by kernel_rfl
theorem zr_110 : zeroT Tryz.prog 110 = some [.string ⟨#[]⟩, .string ⟨#[]⟩, .string ⟨#[]⟩, .string ⟨#[]⟩, .int .i64 0, .int .i64 0, .int .i64 0, .int .i64 0, .int .i64 0, .int .i64 0] := by kernel_rfl
theorem sz_111 : sizeT Tryz.prog 111 = some 10 := by kernel_rfl
theorem zr_111 : zeroT Tryz.prog 111 = some [.string ⟨#[]⟩, .string ⟨#[]⟩, .string ⟨#[]⟩, .string ⟨#[]⟩, .int .i64 0, .int .i64 0, .int .i64 0, .int .i64 0, .int .i64 0, .int .i64 0] := by kernel_rfl
theorem agg_113 : aggT Tryz.prog 113 = true := by kernel_rfl
theorem sz_113 : sizeT Tryz.prog 113 = some 2 := by kernel_rfl
theorem pl_113 : placesT Tryz.prog 113 = some [(0, 1), (1, 1)] := by kernel_rfl
theorem zr_113 : zeroT Tryz.prog 113 = some [.int .i64 0, .int .i64 0] := by kernel_rfl
theorem sz_114 : sizeT Tryz.prog 114 = some 2 := by kernel_rfl
theorem zr_114 : zeroT Tryz.prog 114 = some [.int .i64 0, .int .i64 0] := by kernel_rfl
theorem agg_116 : aggT Tryz.prog 116 = true := by kernel_rfl
theorem sz_116 : sizeT Tryz.prog 116 = some 4 := by kernel_rfl
theorem pl_116 : placesT Tryz.prog 116 = some [(0, 1), (1, 1), (2, 1), (3, 1)] := by kernel_rfl
theorem zr_116 : zeroT Tryz.prog 116 = some [.string ⟨#[]⟩, .int .i64 0, .int .i64 0, .int .i64 0] := by kernel_rfl
theorem sz_117 : sizeT Tryz.prog 117 = some 4 := by kernel_rfl
theorem zr_117 : zeroT Tryz.prog 117 = some [.string ⟨#[]⟩, .int .i64 0, .int .i64 0, .int .i64 0] := by kernel_rfl
theorem one_128 : oneT Tryz.prog 128 = true := by kernel_rfl
theorem one_163 : oneT Tryz.prog 163 = true := by kernel_rfl
theorem sz_163 : sizeT Tryz.prog 163 = some 1 := by kernel_rfl
theorem one_164 : oneT Tryz.prog 164 = true := by kernel_rfl
theorem sz_164 : sizeT Tryz.prog 164 = some 1 := by kernel_rfl
theorem sl_164 : Tryz.prog.underlying 164 = some (.slice 5) := by kernel_rfl
theorem off_166_0 : foff Tryz.prog 166 0 = some 0 := by kernel_rfl
theorem off_166_1 : foff Tryz.prog 166 1 = some 1 := by kernel_rfl
theorem zr_166 : zeroT Tryz.prog 166 = some [.pointer none, .slice none 0 0] := by kernel_rfl
theorem one_193 : oneT Tryz.prog 193 = true := by kernel_rfl
theorem mixed : Tryz.prog.follows .mixedOrders = true := by kernel_rfl
end Go.Proofs.YtekeanikgcpijaaGreatDoor
namespace Go.Proofs.YtekeanikgcpijaaGreatDoor
open Go.RowKit
section
variable {P : Program} {cx : Cx} {T : TL} {B : BL} {R : RL}
theorem e_cutk {ι : Type} {Q : Exit → Act → World → Prop} {K : Act → World → Prop} {x : Code} (Ti : ι → TL) (Bi : ι → BL) (Ri : ι → RL) (h1 : E cx T B R (x.wp P (Exit.then (Cut cx Ti Bi Ri) Q))) (h2 : ∀ i, E cx (Ti i) (Bi i) (Ri i) K) : E cx T B R (x.wp P (Exit.then K Q)) := fun M V a w hr => by
  refine wp_mono (h1 M V a w hr) fun e a' w' hq => ?_
  cases e <;> first | exact hq | (obtain ⟨i, M', V', h3⟩ := hq; exact h2 i M' V' a' w' h3)
end
end Go.Proofs.YtekeanikgcpijaaGreatDoor
namespace Go.Proofs.YtekeanikgcpijaaGreatDoor
open Go.RowKit
noncomputable def cdec (p : Prop) : Bool := @decide p (Classical.propDecidable p)
theorem cdec_true {p : Prop} : cdec p = true ↔ p := by unfold cdec; exact @decide_eq_true_iff p (Classical.propDecidable p)
theorem cdec_eq {p : Prop} {b : Bool} (h : b = true ↔ p) : b = cdec p := by
  cases b
  · cases hc : cdec p
    · rfl
    · exact absurd (h.2 (cdec_true.1 hc)) (by decide)
  · exact (cdec_true.2 (h.1 rfl)).symm
inductive Alike (P : Program) (t : TypeId) : Value → Value → Prop where
  | int (k k' : IntKind) (a b : Int) (h : P.underlying t = some (.int k')) : Alike P t (.int k a) (.int k b)
  | str (a b : List UInt8) (h : P.underlying t = some .string) : Alike P t (.string (str a)) (.string (str b))
theorem run_part_one {P : Program} {t : TypeId} {xs : Array Value} {i : Nat} {v : Value} (w : World) (ht : P.underlying t = some .string ∨ ∃ k, P.underlying t = some (.int k)) (h : xs[i]? = some v) : (part t xs i).run P w = .ok v w := by
  rcases ht with hu | ⟨k, hu⟩ <;> simp [part, isAgg, run_underlying hu, h]
theorem Alike.plain {P : Program} {t : TypeId} {a b : Value} (h : Alike P t a b) : P.underlying t = some .string ∨ ∃ k, P.underlying t = some (.int k) := by
  cases h with
  | int k k' a b hu => exact .inr ⟨k', hu⟩
  | str a b hu => exact .inl hu
section
variable {P : Program} {cx : Cx} {T : TL} {B : BL} {R : RL} {o : Oper}
theorem many_cells {w : World} {D : Nat → Prop} {M : Nat → Nat} {V : Nat → Value} {cs : List Value} {v : Value} (h : VR w D M V (.part (.many (cs.map .cell))) v) : v = .agg cs.toArray := by
  obtain ⟨xs, rfl, h⟩ := h
  congr 2
  induction cs generalizing xs with
  | nil => exact List.length_eq_zero_iff.1 (by simpa using h.1.symm)
  | cons c cs ih =>
    obtain ⟨x, ys, rfl, h1, h2⟩ := h.head
    rw [h1.cell_eq, ih ys h2]
theorem s_binm {x y : Operand} {op : BinOp} {t t' : TypeId} {cs ds : List Value} {r : Value} (ho : o.op = .binOp op t x y t') (hx : Kn T x (.part (.many (cs.map .cell)))) (hy : Kn T y (.part (.many (ds.map .cell)))) (h : BinV P op t (.agg cs.toArray) (.agg ds.toArray) r) : LStep P cx B R o T (.is r) := LStep.same fun M V w a _ hk => by
  have h1 := many_cells (hk x _ (by simp [ho, Op.operands]) hx)
  have h2 := many_cells (hk y _ (by simp [ho, Op.operands]) hy)
  refine ⟨r, ?_, .cell r⟩
  have := h x y w
  unfold execOp
  simp only [ho, h1, h2]
  rw [Sem.run_bind, this]
  rfl
end
end Go.Proofs.YtekeanikgcpijaaGreatDoor
