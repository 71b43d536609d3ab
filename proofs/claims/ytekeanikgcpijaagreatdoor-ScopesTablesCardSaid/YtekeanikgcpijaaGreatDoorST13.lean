/- Part 13 of what the last text of this claim is proved by: walks over the program, and the math behind them. Conditions: as each theorem says. -/
import Derived.Test.YtekeanikgcpijaaGreatDoorST12
import Derived.Laws.Slices
namespace Go.Proofs.YtekeanikgcpijaaGreatDoor
open Go.RowKit
theorem Imp.ptr_ref (t : TypeId) (ds : List Dat) : Imp (.part (.one (.ptr t ds))) (.ref ds) := fun w D M V v h => by
  have h' : Lies w D (.ptr t ds) v := h
  cases h' with
  | ptr b t ds xs hD hb hl hx => exact ⟨b, 0, rfl, hD, xs, ⟨hl, fun j d x h1 h2 => hx j d x h1 h2⟩, fun j x hj => by rw [Nat.zero_add, hb.cell]; exact hj⟩
section
variable {P : Program} {cx : Cx} {T : TL} {B : BL} {R : RL} {o : Oper}
theorem s_iaddr_box {x i : Operand} {t : TypeId} {b j k : Nat} {kk : IntKind} {z : Int} (ho : o.op = .indexAddr t x i) (hx : Kn T x (.box b j)) (hi : Kn T i (.is (.int kk z))) (hz : 0 ≤ z ∧ z < (P.arrayLen t : Int)) (ht : P.underlying t = some (.array (P.arrayLen t) (P.elem t))) (hs : sizeT P (P.elem t) = some k) :
    LStep P cx B R o T (.box b (j + z.toNat * k)) := LStep.same fun M V w a hh hk => by
  have h1 : a.eval x = .pointer (some ⟨M b, j, none⟩) := hk x _ (by simp [ho, Op.operands]) hx
  have h2 := (hk i _ (by simp [ho, Op.operands]) hi).is_eq
  have h7 := run_indexAt_array (P := P) w t ⟨M b, j, none⟩ kk z ht
  rw [if_pos ⟨hz.1, hz.2⟩, run_sizeT hs, Result.andThen_ok, add_none] at h7
  exact ⟨_, by simp [execOp, ho, h1, h2, h7], rfl⟩
theorem s_iaddr_ref {x i : Operand} {t : TypeId} {k : Nat} {ds : List Dat} {kk : IntKind} {z : Int} (ho : o.op = .indexAddr t x i) (hx : Kn T x (.ref ds)) (hi : Kn T i (.is (.int kk z))) (hz : 0 ≤ z ∧ z < (P.arrayLen t : Int)) (ht : P.underlying t = some (.array (P.arrayLen t) (P.elem t))) (hs : sizeT P (P.elem t) = some k) :
    LStep P cx B R o T (.ref (ds.drop (z.toNat * k))) := LStep.same fun M V w a hh hk => by
  obtain ⟨b, f, h1, hD, xs, hf, hc⟩ := hk x _ (by simp [ho, Op.operands]) hx
  have h2 := (hk i _ (by simp [ho, Op.operands]) hi).is_eq
  have h7 := run_indexAt_array (P := P) w t ⟨b, f, none⟩ kk z ht
  rw [if_pos ⟨hz.1, hz.2⟩, run_sizeT hs, Result.andThen_ok, add_none] at h7
  refine ⟨_, by simp [execOp, ho, h1, h2, h7], b, f + z.toNat * k, rfl, hD, xs.drop (z.toNat * k), ⟨by simp [hf.1], fun j d x hd hx => ?_⟩, fun j x hx => ?_⟩
  · rw [List.getElem?_drop] at hd hx
    exact hf.2 _ d x hd hx
  · rw [List.getElem?_drop] at hx
    have := hc _ x hx
    rw [← this]
    congr 2
    omega
theorem s_aslice_ref {x hi : Operand} {t : TypeId} {k : Nat} {ds es : List Dat} {kk : IntKind} {z : Int} (ho : o.op = .slice t x none (some hi) none) (hx : Kn T x (.ref ds)) (hh : Kn T hi (.is (.int kk z))) (hz : 0 ≤ z ∧ z ≤ (P.arrayLen t : Int)) (hpos : 0 < P.arrayLen t) (ht : P.underlying t = some (.array (P.arrayLen t) (P.elem t))) (hs : sizeT P (P.elem t) = some k) (hl : z.toNat * k ≤ ds.length) (hes : ds.take (z.toNat * k) = es) :
    LStep P cx B R o T (.part (.one (.row k z.toNat es))) := LStep.same fun M V w a _ hkk => by
  obtain ⟨b, f, h1, hD, xs, hf, hc⟩ := hkk x _ (by simp [ho, Op.operands]) hx
  have h2 := (hkk hi _ (by simp [ho, Op.operands]) hh).is_eq
  have h5 := run_sliceAt_array_h (P := P) w t ⟨b, f, none⟩ ht kk z hz.1 hz.2
  rw [run_sizeT hs, Result.andThen_ok] at h5
  refine ⟨slicedAt ⟨b, f, none⟩ 0 z.toNat (P.arrayLen t) k, by simp [execOp, ho, h1, h2, h5], ?_⟩
  show Lies w _ (.row k z.toNat es) (slicedAt ⟨b, f, none⟩ 0 z.toNat (P.arrayLen t) k)
  have h0 : ¬ P.arrayLen t = 0 := by omega
  unfold slicedAt
  rw [if_neg h0, Nat.zero_mul, add_none, Nat.add_zero, Nat.sub_zero, Nat.sub_zero]
  subst hes
  rcases Nat.eq_zero_or_pos z.toNat with hz0 | hz0
  · rw [hz0, Nat.zero_mul, List.take_zero]
    exact .none k _ _
  · have hlx : ds.length = xs.length := hf.1
    refine .row k z.toNat b f (P.arrayLen t) _ (fun j => xs[j]?.getD undef) hz0 (by omega) (by simp; omega) hD (fun j hj => ?_) fun j d hd => ?_
    · have hj' : j < xs.length := by simp at hj; omega
      rw [List.getElem?_eq_getElem hj', Option.getD_some]
      exact hc j _ (List.getElem?_eq_getElem hj')
    · rw [List.getElem?_take] at hd
      split at hd
      · have hj' : j < xs.length := by
          rw [← hlx]
          rcases Nat.lt_or_ge j ds.length with h | h
          · exact h
          · rw [List.getElem?_eq_none h] at hd; cases hd
        rw [List.getElem?_eq_getElem hj', Option.getD_some]
        exact hf.2 j d _ hd (List.getElem?_eq_getElem hj')
      · cases hd
def shD (R : RL) : IV → Option Dat
  | .part (.one d) => some d
  | .own r => (lk r R).map datOf
  | _ => none
def shows (R : RL) : List IV → Option (List Dat)
  | [] => some []
  | x :: l => match shD R x, shows R l with | some d, some ds => some (d :: ds) | _, _ => none
theorem shows_len : ∀ {l : List IV} {ds : List Dat}, shows R l = some ds → l.length = ds.length
  | [], ds, h => by
    obtain rfl := Option.some.inj h
    rfl
  | x :: l, ds, h => by
    unfold shows at h
    split at h
    · rename_i h2
      obtain rfl := Option.some.inj h
      simp [shows_len h2]
    · cases h
theorem shows_get : ∀ {l : List IV} {ds : List Dat} (_ : shows R l = some ds) {j : Nat} {x : IV} {d : Dat}, l[j]? = some x → ds[j]? = some d → shD R x = some d
  | [], ds, h, j, x, d, hx, hd => by simp at hx
  | y :: l, ds, h, j, x, d, hx, hd => by
    unfold shows at h
    split at h
    · rename_i h1 h2
      obtain rfl := Option.some.inj h
      cases j with
      | zero =>
        obtain rfl : y = x := by simpa using hx
        obtain rfl : _ = d := by simpa using hd
        exact h1
      | succ j => exact shows_get h2 (j := j) (by simpa using hx) (by simpa using hd)
    · cases h
theorem shows_data (ds : List Dat) : shows R (bcs ds) = some ds := by
  induction ds with
  | nil => rfl
  | cons d ds ih =>
    show shows R (.part (.one d) :: bcs ds) = _
    unfold shows
    rw [ih]
    rfl
theorem shows_append : ∀ {l m : List IV} {ds es : List Dat}, shows R l = some ds → shows R m = some es → shows R (l ++ m) = some (ds ++ es)
  | [], m, ds, es, h1, h2 => by
    obtain rfl := Option.some.inj h1
    exact h2
  | x :: l, m, ds, es, h1, h2 => by
    unfold shows at h1
    split at h1
    · rename_i h3 h4
      obtain rfl := Option.some.inj h1
      show shows R (x :: (l ++ m)) = _
      unfold shows
      rw [h3, shows_append h4 h2]
      rfl
    · cases h1
def Far (y y' : IV) : Prop := ∀ (w : World) (D : Nat → Prop) (M : Nat → Nat) (V : Nat → Value) (w' : World) (D' : Nat → Prop) (M' : Nat → Nat) (V' : Nat → Value) (v : Value), VR w D M V y v → VR w' D' M' V' y' v
theorem Far.is (v : Value) : Far (.is v) (.is v) := fun w D M V w' D' M' V' u h => by
  obtain rfl := VR.is_eq h
  exact .cell _
theorem pfit_far {w w' : World} {D D' : Nat → Prop} (cs : List Value) {u : Value} (h : PFit w D (.many (cs.map .cell)) u) : PFit w' D' (.many (cs.map .cell)) u := by
  obtain ⟨xs, h1, h2⟩ := h
  obtain rfl := h2.cells
  exact ⟨xs, h1, .of_cells _ _ _⟩
theorem Far.many1 (cs : List Value) (v : Value) : Far (.tup [.many (cs.map .cell), .one (.cell v)]) (.tup [.many (cs.map .cell), .one (.cell v)]) := fun w D M V w' D' M' V' u h => by
  obtain ⟨vs, h1, h2⟩ := h
  match vs, h1, h2 with
  | [a, b], h1, h2 =>
    obtain rfl := Lies.cell_eq h2.2.1
    exact ⟨[a, b], h1, pfit_far cs h2.1, .cell _, trivial⟩
def LenV (n : Nat) (_ v : Value) : Prop := ∃ p c, v = .slice p n c
theorem Far.row (r k n : Nat) (ds : List Dat) : Far (.part (.one (.row k n ds))) (.via r (LenV n)) := fun w D M V w' D' M' V' u h => by
  obtain ⟨p, c, h1⟩ := row_shape h
  exact ⟨p, c, h1⟩
theorem s_len_via {x : Operand} {t : TypeId} {r n : Nat} (ho : o.op = .call { callee := .builtin .len, args := #[x], argTypes := #[t] }) (hx : Kn T x (.via r (LenV n))) (ht : P.underlying t = some (.slice (P.elem t))) :
    LStep P cx B R o T (.is (.int .i64 (n : Int))) := LStep.same fun M V w a _ hk => by
  obtain ⟨p, c, h1⟩ : LenV n (V r) (a.eval x) := hk x _ (by simp [ho, Op.operands, Call.operands]) hx
  exact ⟨_, by simp [execOp, ho, h1, resolve, invoke, builtin, run_len_slice w t _ p n c ht, goInt], .cell _⟩
theorem Gx.dat {w : World} {D D' : Nat → Prop} {base : Nat} {x : Rw} {v : Value} (h : Gx w D base x.ty x.k v x.n x.ds) (hD : ∀ g, D g → D' g) (hv : ∀ g, obk v = some g → D' g) : Lies w D' (datOf x) v := by
  have hk := Keeps.refl D w
  rcases hty : Nat.blt x.ty 1000000 with _ | _
  · rw [datOf_map hty]
    obtain ⟨xs, ⟨h3, _⟩ | ⟨_, g, es, c, e1, _, e2, e3, e4⟩, h5⟩ := h
    · rw [hty] at h3; cases h3
    · rw [e1]
      exact .map g x.n es c x.ds xs (hv g (by rw [e1]; rfl)) e2 e3 e4 h5.1 fun j d y a b => (h5.2 j d y a b).stay hk hD
  · rw [datOf_row hty]
    have h3 := h.row hty
    refine h3.lies hD fun g hg => hv g ?_
    obtain ⟨xs, a2, _⟩ := h3
    exact (obk_row a2).trans hg
theorem s_show {f : FuncId} {x : Operand} {xs : List Operand} {ts : Array TypeId} {b : Nat} {bx : Bx} {ds : List Dat} {ps : List Part} {y y' : IV} (ho : o.op = .call { callee := .value (.func f), args := (x :: xs).toArray, argTypes := ts }) (hc : callable P f = true) (hf : EF P cx.gl f (.one (.ptr bx.ty ds) :: ps) y) (hx : Kn T x (.box b 0)) (hb : lk b B = some bx) (hm : shows R bx.cs = some ds) (hxs : KnA T xs ps) (hy : Far y y') : LStep P cx B R o T y' := fun M V w a hh ht => by
  have hkk : ∀ y z, y ∈ x :: xs → Kn T y z → VR w (Dc cx B R M V w) M V z (a.eval y) := fun y z hm hkx => hkx w _ M V a fun t z' e hz => ht t z' (by
    subst e
    rw [ho]
    simpa [Op.operands, Call.operands] using hm) hz
  have hrun : (execOp a.eval o).run P w = .ok (.enter f ((x :: xs).map a.eval).toArray) w := by
    have he : a.eval (.func f) = .func (.func f) #[] #[] := rfl
    simp [execOp, ho, resolve, he, Deferred.ofValue, invoke, run_callable hc]
  rw [hrun]
  have hxv : a.eval x = .pointer (some ⟨M b, 0, none⟩) := hkk x _ (by simp) hx
  obtain ⟨hown, cells, hblk, hfit⟩ := hh.box b bx hb
  have hlt := hblk.lt
  have hD : ∀ g, Dc cx B R M V w g → g < w.heap.size := fun g hg => hh.dlt hg
  have hps : PsFit w (Dc cx B R M V w) ps (xs.map a.eval) := hxs.fit fun y z hm hkx => hkk y z (by simp [hm]) hkx
  let D' : Nat → Prop := fun g => Dc cx B R M V w g ∨ g = M b ∨ ∃ r x, lk r R = some x ∧ x.fz = false ∧ obk (V r) = some g
  have hk := Keeps.refl (Dc cx B R M V w) w
  have hDD : ∀ g, Dc cx B R M V w g → D' g := fun g h => .inl h
  have hD' : ∀ g, D' g → g < w.heap.size := fun g hg => by
    rcases (show Dc cx B R M V w g ∨ g = M b ∨ ∃ r x, lk r R = some x ∧ x.fz = false ∧ obk (V r) = some g from hg) with hg | rfl | ⟨r, x, h1, h2, h3⟩
    · exact hD g hg
    · exact hlt
    · have h4 := hh.row r x h1
      rw [h2] at h4
      obtain ⟨zs, h5, _⟩ : Gx w (Dc cx B R M V w) 0 x.ty x.k (V r) x.n x.ds := h4
      exact (h5.lt g h3).2
  have hcell : ∀ (j : Nat) d u, ds[j]? = some d → cells[j]? = some u → Lies w D' d u := fun j d u hd hu => by
    have hlen := shows_len hm
    have hj : j < bx.cs.length := by
      rw [hlen]
      rcases Nat.lt_or_ge j ds.length with h | h
      · exact h
      · rw [List.getElem?_eq_none h] at hd; cases hd
    have hxj := List.getElem?_eq_getElem hj
    have h1 := shows_get hm hxj hd
    have h2 := (hfit.2 j _ u hxj hu).1
    generalize bx.cs[j] = q at h1 h2
    cases q with
    | part p =>
      cases p with
      | one e =>
        obtain rfl := Option.some.inj h1
        exact Lies.stay h2 hk hDD
      | many es => cases h1
    | own r =>
      have h3 : u = V r := h2
      subst h3
      cases hr : lk r R with
      | none => simp [shD, hr] at h1
      | some y =>
        have : datOf y = d := by simpa [shD, hr] using h1
        subst this
        have h4 := hh.row r y hr
        cases hfz : y.fz with
        | true =>
          rw [if_pos hfz] at h4
          exact h4.stay hk hDD
        | false =>
          rw [hfz] at h4
          exact Gx.dat (show Gx w (Dc cx B R M V w) 0 y.ty y.k (V r) y.n y.ds from h4) hDD fun g hg => .inr (.inr ⟨r, y, hr, hfz, hg⟩)
    | _ => cases h1
  have hp0 : PFit w D' (.one (.ptr bx.ty ds)) (a.eval x) := by
    rw [hxv]
    exact .ptr (M b) bx.ty ds cells (.inr (.inl rfl)) hblk ((shows_len hm).symm.trans hfit.1) hcell
  refine ⟨rfl, (hf w D' (a.eval x :: xs.map a.eval) hD' hh.glok ⟨hp0, hps.stay hk hDD⟩).mono fun e w' ⟨v, y0, h1, h2, h3, h4⟩ => ?_⟩
  subst h2
  exact ⟨v, h1, h3, hy _ _ _ _ _ _ _ _ _ (h4 M V)⟩
variable {ops : Array Oper} {Q : Exit → Act → World → Prop} {l : List Oper}
theorem e_build_two {o1 o2 : Oper} {d1 d2 : Nat} {t t2 : TypeId} {x1 x2 : Operand} {i1 i2 p1 p2 r1 r2 : Nat} {places : List (Nat × Nat)} {zs : List Value} (b : Nat) {z1 z2 : Rw}
    (g1 : o1.guard = none) (e1 : o1.dst = some d1) (n1 : Nat.blt d1 cx.n = true) (q1 : o1.op = .build t #[(i1, x1), (i2, x2)]) (hpl : placesT P t = some places) (hz : zeroT P t = some zs) (hp1 : places[i1]? = some (p1, 1)) (hp2 : places[i2]? = some (p2, 1)) (hl1 : p1 < zs.length) (hl2 : p2 < zs.length)
    (hx1 : Kn T x1 (.own r1)) (hx2 : Kn T x2 (.own r2)) (hr1 : lk r1 R = some z1) (hr2 : lk r2 R = some z2) (hf1 : z1.fz = false) (hf2 : z2.fz = false)
    (g2 : o2.guard = none) (e2 : o2.dst = some d2) (n2 : Nat.blt d2 cx.n = true) (q2 : o2.op = .box t2 (.tmp d1)) (h1 : zs.all (·.oneCell') = true)
    (hpn : cx.pn.all (fun c => !Nat.beq c b) = true) (hT : nobT b T = true) (hB : nobB b B = true)
    (hE : E cx ((d2, .box b 0) :: (d1, .junk) :: T) ((b, ⟨t2, ((zs.map IV.is).set p1 (.own r1)).set p2 (.own r2)⟩) :: B) R (wpList P ops Q l)) : E cx T B R (wpList P ops Q (o1 :: o2 :: l)) := fun M V a w hr => by
  have hv1 : a.eval x1 = V r1 := hx1 w (Dc cx B R M V w) M V a fun t z _ hz => hr.tmp t z hz
  have hv2 : a.eval x2 = V r2 := hx2 w (Dc cx B R M V w) M V a fun t z _ hz => hr.tmp t z hz
  have hone : ∀ r z, lk r R = some z → z.fz = false → (V r).oneCell' = true := fun r z hz hf => by
    have h4 := hr.heap.row r z hz
    rw [hf] at h4
    obtain ⟨ys, h5, _⟩ : Gx w (Dc cx B R M V w) 0 z.ty z.k (V r) z.n z.ds := h4
    rcases h5 with ⟨_, h5⟩ | ⟨_, g, es, c, h5, _⟩
    · rcases h5.2 with ⟨h6, _⟩ | ⟨g, cap, cur, h6, _⟩ <;> (rw [h6]; rfl)
    · rw [h5]; rfl
  have hone1 := hone r1 z1 hr1 hf1
  have hone2 := hone r2 z2 hr2 hf2
  cases hu : P.underlying t with
  | none => simp [placesT, hu] at hpl
  | some dd =>
    cases dd <;> simp only [placesT, hu] at hpl <;> try cases hpl
    rename_i fs
    cases hi : P.info? t with
    | none => simp [zeroT, hi] at hz
    | some it =>
      cases hzz : it.zero with
      | none => simp [zeroT, hi, hzz] at hz
      | some zv =>
        have hzc : zv.cells.toList = zs := by simpa [zeroT, hi, hzz] using hz
        have hsz : zv.cells.size = zs.length := by rw [← hzc]; simp
        have hcl : ∀ v : Value, v.oneCell' = true → v.cells = #[v] := fun v hv => by
          revert hv
          cases v <;> intro h <;> first | rfl | cases h
        let out := (zv.cells.setIfInBounds p1 (V r1)).setIfInBounds p2 (V r2)
        have hout : out.toList = (zs.set p1 (V r1)).set p2 (V r2) := by simp [out, hzc]
        have hb : P.built t [(i1, V r1), (i2, V r2)] = some out := by
          unfold Program.built
          rw [hi, hu]
          simp only [hzz, hpl]
          have k1 := hcl _ hone1
          have k2 := hcl _ hone2
          have q1' : places.toArray[i1]? = some (p1, 1) := by simpa using hp1
          have q2' : places.toArray[i2]? = some (p2, 1) := by simpa using hp2
          simp only [Instr.fill, q1', q2', k1, k2]
          have hl1' : ¬ zv.cells.size ≤ p1 := by omega
          have hl2' : ¬ zv.cells.size ≤ p2 := by omega
          simp [hl1', hl2', out]
          omega
        have hrun1 := run_build (P := P) w t #[(i1, V r1), (i2, V r2)] out (by simpa using hb)
        have hrun : (execOp a.eval o1).run P w = .ok (.value (.agg out)) w := by
          have hmap : (#[(i1, x1), (i2, x2)] : Array (Nat × Operand)).map (fun x => (x.1, a.eval x.2)) = #[(i1, V r1), (i2, V r2)] := by simp [hv1, hv2]
          unfold execOp
          simp only [q1]
          rw [hmap, Sem.run_bind, hrun1]
          rfl
        refine wpList_plain g1 fun K hK => ?_
        unfold Oper.wp
        rw [hrun]
        simp only [Oper.upon, e1]
        refine hK _ _ ?_
        have hr1' : Rel cx ((d1, .junk) :: T) B R M V (a.put (some d1) (.agg out)) w := hr.put (Below.refl _ _) (blt_lt n1) trivial
        have v1 : (a.put (some d1) (.agg out)).eval (.tmp d1) = .agg out := by rw [put_get (by rw [hr.size]; exact blt_lt n1), if_pos rfl]
        generalize a.put (some d1) (.agg out) = a1 at hr1' v1 ⊢
        refine wpList_plain g2 fun K hK => ?_
        have hc : CFit w (Dc cx B R M V w) M V (((zs.map IV.is).set p1 (.own r1)).set p2 (.own r2)) out.toList := ⟨by rw [hout]; simp, fun j y v hy hvv => by
          rw [hout] at hvv
          rw [List.getElem?_set] at hy hvv
          split at hy
          · rename_i h
            rw [if_pos h] at hvv
            split at hy
            · obtain rfl := Option.some.inj hy
              rw [if_pos (by simpa using hl2)] at hvv
              obtain rfl := Option.some.inj hvv
              exact ⟨rfl, hone2⟩
            · cases hy
          · rename_i h
            rw [if_neg h] at hvv
            rw [List.getElem?_set] at hy hvv
            split at hy
            · rename_i h'
              rw [if_pos h'] at hvv
              split at hy
              · obtain rfl := Option.some.inj hy
                rw [if_pos hl1] at hvv
                obtain rfl := Option.some.inj hvv
                exact ⟨rfl, hone1⟩
              · cases hy
            · rename_i h'
              rw [if_neg h'] at hvv
              exact cfit_is zs hy hvv h1⟩
        obtain ⟨M', hr'⟩ := hr1'.alloc b t2 hpn (by simp [nobT, IV.nob]; simpa [nobT] using hT) hB (by
          rw [List.all_eq_true]
          intro y hy
          rcases List.mem_or_eq_of_mem_set hy with hy | rfl
          · rcases List.mem_or_eq_of_mem_set hy with hy | rfl
            · rw [List.mem_map] at hy
              obtain ⟨z, _, rfl⟩ := hy
              rfl
            · rfl
          · rfl) hc (d := d2) (blt_lt n2)
        have := hK _ _ (hE M' V _ _ hr')
        unfold Oper.wp execOp
        simp only [q2, v1, Sem.run_bind]
        simp [Instr.box, newVar, newRow, Value.cells, Oper.upon, e2]
        simpa using this
theorem e_freeze_mcell {K : Act → World → Prop} (b j r : Nat) {bx : Bx} {y : Rw} {is : List IV} (hb : lk b B = some bx) (hj : bx.cs[j]? = some (.own r)) (hy : lk r R = some y) (hf : y.fz = false) (his : bx.cs.set j (.part (.one (.map y.n y.ds))) = is) (h : E cx T ((b, ⟨bx.ty, is⟩) :: B) ((r, ⟨y.ty, y.k, y.n, y.ds, true⟩) :: R) K) (hty : Nat.blt y.ty 1000000 = false := by rfl) : E cx T B R K := fun M V a w hr => by
  have h2 := hr.freeze r hy hf
  obtain ⟨_, cs, a2, a3⟩ := h2.heap.box b bx hb
  refine h M V a w (h2.set hb a2 (fun _ _ => rfl) rfl rfl rfl rfl ⟨by rw [← his]; simp [a3.1], fun i z u hz hu => ?_⟩)
  rw [← his, List.getElem?_set] at hz
  split at hz
  · rename_i hij
    subst hij
    split at hz
    · obtain rfl := Option.some.inj hz
      have h3 := h2.heap.row r _ (lk_cons_eq _ _ _)
      rw [if_pos rfl, datOf_map (x := ⟨y.ty, y.k, y.n, y.ds, true⟩) hty] at h3
      have h4 := a3.2 j _ u hj hu
      have h5 : u = V r := h4.1
      refine ⟨?_, h4.2⟩
      rw [h5]
      exact h3
    · cases hz
  · exact a3.2 i z u hz hu
end
end Go.Proofs.YtekeanikgcpijaaGreatDoor
namespace Go.Proofs.YtekeanikgcpijaaGreatDoor
open Go.RowKit
section
variable {P : Program} {cx : Cx} {T : TL} {B : BL} {R : RL} {ops : Array Oper} {Q : Exit → Act → World → Prop} {deps : List (List Nat)}
def depsOf (ops : Array Oper) : List (List Nat) := ops.toList.map fun o => (o.after.toList.filter fun e => Region.binds .any e).map (·.on)
def readyC (L : List Bool) : Nat → List (List Nat) → List Nat
  | _, [] => []
  | i, d :: ds => bif !(L.getD i true) && d.all (fun j => L.getD j false) then i :: readyC L (i + 1) ds else readyC L (i + 1) ds
theorem mem_readyC {L : List Bool} : ∀ {ds : List (List Nat)} {k i : Nat}, i ∈ readyC L k ds ↔ k ≤ i ∧ L.getD i true = false ∧ ∃ d, ds[i - k]? = some d ∧ d.all (fun j => L.getD j false) = true
  | [], k, i => by simp [readyC]
  | d :: ds, k, i => by
    have ih := mem_readyC (L := L) (ds := ds) (k := k + 1) (i := i)
    have key : i ∈ readyC L k (d :: ds) ↔ (i = k ∧ L.getD k true = false ∧ d.all (fun j => L.getD j false) = true) ∨ i ∈ readyC L (k + 1) ds := by
      rw [show readyC L k (d :: ds) = bif !(L.getD k true) && d.all (fun j => L.getD j false) then k :: readyC L (k + 1) ds else readyC L (k + 1) ds from rfl]
      cases h : (!(L.getD k true) && d.all (fun j => L.getD j false)) with
      | true =>
        simp only [Bool.and_eq_true, Bool.not_eq_true'] at h
        simp only [cond_true, List.mem_cons]
        exact ⟨fun h' => h'.imp (fun e => ⟨e, h.1, h.2⟩) id, fun h' => h'.imp (fun e => e.1) id⟩
      | false =>
        simp only [cond_false]
        refine ⟨.inr, fun h' => h'.resolve_left fun e => ?_⟩
        rw [e.2.1, e.2.2] at h
        cases h
    rw [key, ih]
    constructor
    · rintro (⟨rfl, h1, h2⟩ | ⟨h1, h2, d', h3, h4⟩)
      · exact ⟨Nat.le_refl _, h1, d, by simp, h2⟩
      · refine ⟨by omega, h2, d', ?_, h4⟩
        rw [show i - k = (i - (k + 1)) + 1 by omega, List.getElem?_cons_succ]
        exact h3
    · rintro ⟨h1, h2, d', h3, h4⟩
      by_cases e : i = k
      · subst e
        rw [Nat.sub_self, List.getElem?_cons_zero] at h3
        obtain rfl := Option.some.inj h3
        exact .inl ⟨rfl, h2, h4⟩
      · rw [show i - k = (i - (k + 1)) + 1 by omega, List.getElem?_cons_succ] at h3
        exact .inr ⟨by omega, h2, d', h3, h4⟩
theorem ready_readyC {L : List Bool} (hd : depsOf ops = deps) {i : Nat} : i ∈ Region.ready .any ops L.toArray ↔ i ∈ readyC L 0 deps := by
  have hg : ∀ (j : Nat) (b : Bool), L.toArray.getD j b = L.getD j b := fun j b => by simp [List.getD_eq_getElem?_getD]
  rw [mem_ready, mem_readyC, ← hd]
  simp only [hg, Nat.zero_le, true_and, Nat.sub_zero, depsOf, List.getElem?_map, Array.getElem?_toList]
  constructor
  · rintro ⟨h1, o, ho, h2⟩
    refine ⟨h1, _, by rw [ho]; rfl, ?_⟩
    rw [List.all_eq_true]
    intro j hj
    obtain ⟨e, he, rfl⟩ := List.mem_map.1 hj
    obtain ⟨he1, he2⟩ := List.mem_filter.1 he
    exact h2 e (Array.mem_toList_iff.1 he1) he2
  · rintro ⟨h1, d, h2, h3⟩
    cases ho : ops[i]? with
    | none => rw [ho] at h2; cases h2
    | some o =>
      rw [ho] at h2
      obtain rfl := Option.some.inj h2
      refine ⟨h1, o, rfl, fun e he hb => ?_⟩
      exact List.all_eq_true.1 h3 _ (List.mem_map.2 ⟨e, List.mem_filter.2 ⟨Array.mem_toList_iff.2 he, hb⟩, rfl⟩)
theorem e_draw_any {id : Nat} {l : List Oper} (n : Nat) (L : List Bool) (deps : List (List Nat)) (hd : depsOf l.toArray = deps) (hn : l.toArray.size = n) (hm : P.follows .mixedOrders = true) (hL : List.replicate n false = L) (h : depsOf l.toArray = deps → E cx T B R (wpAny P .any l.toArray Q n L.toArray)) : E cx T B R ((Code.region id l.toArray true).wp P Q) := fun M V a w hr => by
  have hr1 : Rel cx T B R M V a w.drew := ⟨hr.size, hr.defers, hr.heap.step (Below.refl _ _).drew, fun t x hx => (hr.tmp t x hx).stay (hr.heap.keeps (Below.refl _ _).drew) fun _ hg => hg.mono (Nat.le_refl _)⟩
  refine wp_region_any hm ?_
  rw [hn, ← List.toArray_replicate, hL]
  exact h hd M V a w.drew hr1
def AnyE (P : Program) (cx : Cx) (T : TL) (B : BL) (R : RL) (ops : Array Oper) (Q : Exit → Act → World → Prop) (fuel : Nat) (L : List Bool) : List Nat → Prop
  | [] => True
  | i :: is => E cx T B R (wpOp P ops Q i (wpAny P .any ops Q fuel (L.set i true).toArray)) ∧ AnyE P cx T B R ops Q fuel L is
theorem AnyE.get {fuel : Nat} {L : List Bool} : ∀ {is : List Nat} (_ : AnyE P cx T B R ops Q fuel L is) {i : Nat}, i ∈ is → E cx T B R (wpOp P ops Q i (wpAny P .any ops Q fuel (L.set i true).toArray))
  | j :: is, h, i, hi => by
    rcases List.mem_cons.1 hi with rfl | hi
    · exact h.1
    · exact AnyE.get h.2 hi
  | [], _, _, hi => by cases hi
theorem e_any {fuel : Nat} {L : List Bool} (hd : depsOf ops = deps) (hne : (readyC L 0 deps).isEmpty = false) (h : AnyE P cx T B R ops Q fuel L (readyC L 0 deps)) : E cx T B R (wpAny P .any ops Q (fuel + 1) L.toArray) := fun M V a w hrel => by
  refine ⟨fun e => ?_, fun i hi => ?_⟩
  · cases hl : readyC L 0 deps with
    | nil => rw [hl] at hne; cases hne
    | cons i is =>
      have : i ∈ Region.ready .any ops L.toArray := (ready_readyC hd).2 (by rw [hl]; exact List.mem_cons_self)
      rw [e] at this
      cases this
  · have := AnyE.get h ((ready_readyC hd).1 hi)
    rw [List.setIfInBounds_toArray]
    exact this M V a w hrel
theorem e_any0 {L : List Bool} (hd : depsOf ops = deps) (hr : (readyC L 0 deps).isEmpty = true) (h : E cx T B R (Q .normal)) : E cx T B R (wpAny P .any ops Q 0 L.toArray) := fun M V a w hrel => by
  refine ⟨?_, h M V a w hrel⟩
  cases hl : Region.ready .any ops L.toArray with
  | nil => rfl
  | cons i is =>
    have : i ∈ readyC L 0 deps := (ready_readyC hd).1 (by rw [hl]; exact List.mem_cons_self)
    cases hl2 : readyC L 0 deps with
    | nil => rw [hl2] at this; cases this
    | cons j js => rw [hl2] at hr; cases hr
theorem e_opi {i : Nat} {o : Oper} {K : Act → World → Prop} (ho : ops[i]? = some o) (hl : LetsOut (Exit.then K Q) → LetsOut Q) (h : E cx T B R (wpList P ops (Exit.then K Q) [o])) : E cx T B R (wpOp P ops Q i K) := fun M V a w hrel => op_of_list ho hl (h M V a w hrel)
end
end Go.Proofs.YtekeanikgcpijaaGreatDoor
namespace Go.Proofs.YtekeanikgcpijaaGreatDoor
open Go.RowKit
def pickT (L : List Bool) : List (Nat × Nat × IV) → TL
  | [] => []
  | (i, s, y) :: es => bif L.getD i false then (s, y) :: pickT L es else pickT L es
def pickS (L : List Bool) : List Nat → List (Nat × Nat × Bx) → BL
  | _, [] => []
  | sn, (i, s, y) :: es => bif L.getD i false && !(sn.any fun c => Nat.beq c s) then (s, y) :: pickS L (s :: sn) es else pickS L sn es
def pickB (L : List Bool) (es : List (Nat × Nat × Bx)) : BL := pickS L [] es
def dagB (deps : List (List Nat)) (L0 full : List Bool) (reach : List (List Bool)) (steps : List (List Bool × Nat)) : Bool :=
  reach.contains L0 && reach.all fun L => bif L == full then (readyC L 0 deps).isEmpty && (L.count false == 0) else
    !(readyC L 0 deps).isEmpty && (readyC L 0 deps).all fun i => steps.contains (L, i) && reach.contains (L.set i true) && ((L.set i true).count false + 1 == L.count false)
section
variable {P : Program} {cx : Cx} {T0 : TL} {B0 : BL} {R : RL} {ops : Array Oper} {Q : Exit → Act → World → Prop} {deps : List (List Nat)} {es : List (Nat × Nat × IV)} {bs : List (Nat × Nat × Bx)}
def AllSteps (P : Program) (cx : Cx) (T0 : TL) (B0 : BL) (R : RL) (ops : Array Oper) (Q : Exit → Act → World → Prop) (es : List (Nat × Nat × IV)) (bs : List (Nat × Nat × Bx)) : List (List Bool × Nat) → Prop
  | [] => True
  | (L, i) :: r => (∀ K, E cx (T0 ++ pickT (L.set i true) es) (pickB (L.set i true) bs ++ B0) R K → E cx (T0 ++ pickT L es) (pickB L bs ++ B0) R (wpOp P ops Q i K)) ∧ AllSteps P cx T0 B0 R ops Q es bs r
theorem AllSteps.get : ∀ {st : List (List Bool × Nat)} (_ : AllSteps P cx T0 B0 R ops Q es bs st) {L : List Bool} {i : Nat}, (L, i) ∈ st → ∀ K, E cx (T0 ++ pickT (L.set i true) es) (pickB (L.set i true) bs ++ B0) R K → E cx (T0 ++ pickT L es) (pickB L bs ++ B0) R (wpOp P ops Q i K)
  | (L', j) :: r, h, L, i, hm => by
    rcases List.mem_cons.1 hm with e | hm
    · injection e with e1 e2
      subst e1 e2
      exact h.1
    · exact AllSteps.get h.2 hm
  | [], _, _, _, hm => by cases hm
theorem AnyE.of {T : TL} {B : BL} {fuel : Nat} {L : List Bool} : ∀ {is : List Nat}, (∀ i ∈ is, E cx T B R (wpOp P ops Q i (wpAny P .any ops Q fuel (L.set i true).toArray))) → AnyE P cx T B R ops Q fuel L is
  | [], _ => trivial
  | i :: is, h => ⟨h i List.mem_cons_self, AnyE.of fun j hj => h j (List.mem_cons_of_mem _ hj)⟩
end
end Go.Proofs.YtekeanikgcpijaaGreatDoor
namespace Go.Proofs.YtekeanikgcpijaaGreatDoor
open Go.RowKit
def EO (P : Program) (gls : List (Nat × List Value)) (f : FuncId) (ps : List Part) (ty k n : Nat) (cs : List Value) : Prop :=
  ∀ (w : World) (D : Nat → Prop) (vs : List Value), (∀ g, D g → g < w.heap.size) → GlOK gls w → PsFit w D ps vs → Calls P f vs.toArray w fun e w' => ∃ v, e = .returned v ∧ Below w.heap.size w w' ∧ w'.ownsRow w.heap.size ty k v n cs
def GivesO (w : World) (ty k n : Nat) (cs : List Value) (e : Ending) (w' : World) : Prop := ∃ v, e = .returned v ∧ Below w.heap.size w w' ∧ w'.ownsRow w.heap.size ty k v n cs
section
variable {P : Program}
theorem eo_enter {gls : List (Nat × List Value)} {f : FuncId} {fn : Func} {c : Code} {ps : List Part} {ty k m : Nat} {cs : List Value} (n : Nat) (hf : P.funcs[f]? = some fn) (hb : fn.body = some c) (hn : fn.ntmps = n) (hle : Nat.ble ps.length n = true)
    (h : ∀ (w : World) (D : Nat → Prop), E ⟨w, D, fun _ => False, n, gls, [], fun _ => 0⟩ (pslots 0 ps) [] [] (c.wp P (bodyPost P fn (GivesO w ty k m cs)))) : EO P gls f ps ty k m cs := fun w D vs hD hG hp => by
  refine calls_of_wp hf hb ?_
  have hl := hp.length
  have hle' := Nat.le_of_ble_eq_true hle
  refine h w D (fun _ => 0) (fun _ => undef) _ w ⟨by simp [hn]; omega, rfl, ⟨Bex.refl _ _, fun g hg => ⟨hD g hg, fun h => h⟩, fun _ h => h.elim, fun g cs hg => ⟨⟨(hG g cs hg).1, fun h => h⟩, (hG g cs hg).2⟩, fun b x hx => (by cases hx), fun r x hx => (by cases hx), fun r x g hx => (by cases hx), fun b hb => (by cases hb), fun b c x y hx => (by cases hx), fun b r x y g hx => (by cases hx), fun r q x y g hx => (by cases hx)⟩, fun t x hx => ?_⟩
  obtain ⟨p, h1, rfl, _⟩ := pslots_get hx
  obtain ⟨v, h2, h3⟩ := hp.get h1
  rw [Nat.sub_zero] at h2
  have hv : (vs.toArray ++ Array.replicate (fn.ntmps - vs.toArray.size) undef).getD t undef = v := by
    have hlt : t < vs.length := by
      rcases Nat.lt_or_ge t vs.length with h | h
      · exact h
      · rw [List.getElem?_eq_none h] at h2; cases h2
    have h4 : vs[t] = v := by
      rw [List.getElem?_eq_getElem hlt] at h2
      exact Option.some.inj h2
    simp [Array.getElem?_append, hlt, h4]
  show VR _ _ _ _ _ ((vs.toArray ++ Array.replicate (fn.ntmps - vs.toArray.size) undef).getD t undef)
  rw [hv]
  exact PFit.stay (D := D) (Keeps.refl _ _) (fun g hg => Or.inl hg) h3
variable {cx : Cx} {T : TL} {B : BL} {R : RL} {M : Nat → Nat} {V : Nat → Value} {o : Oper}
theorem e_return_own (hbor : cx.bor = fun _ => False) {fn : Func} {t r ty k n : Nat} {ds : List Dat} {cs : List Value} (hrs : fn.results = #[.tmp t]) (ht : lk t T = some (.own r)) (hr0 : lk r R = some ⟨ty, k, n, ds, false⟩) (hds : ds = cs.map .cell) (hty : Nat.blt ty 1000000 = true := by rfl) : E cx T B R (bodyPost P fn (GivesO cx.w0 ty k n cs) .ret) := fun M V a w hr => by
  have hbl : Below cx.w0.heap.size cx.w0 w := (show Bex (fun _ => False) cx.w0 w from hbor ▸ hr.heap.below).below
  have hv : a.tmps.getD t undef = V r := hr.tmp t _ ht
  have h1 : Gx w (Dc cx B R M V w) 0 ty k (V r) n ds := hr.heap.row r _ hr0
  obtain ⟨xs, ⟨hl, hown⟩, hfx⟩ : Gr w (Dc cx B R M V w) 0 ty k (V r) n ds := h1.row hty
  subst hds
  obtain rfl := hfx.cells
  refine ⟨hr.defers, V r, ?_, V r, rfl, hbl, hl, ?_⟩
  · have e : results fn a.tmps = (do let vs ← fn.results.mapM (rvRun a.tmps); pure (if h : vs.size = 1 then vs[0] else .tuple vs)) := by
      unfold results
      congr 1
    rw [e, hrs]
    simp [rvRun, hv]
  · rcases hown with h | ⟨g, cap, cur, h2, _, h3⟩
    · exact .inl h
    · refine .inr ⟨g, cap, cur, h2, ?_, h3⟩
      have := hr.heap.ro r _ g hr0 rfl (by rw [h2]; rfl)
      rcases this with h | h
      · exact h
      · rw [hbor] at h; exact h.elim
theorem EO.ef {gls : List (Nat × List Value)} {f : FuncId} {ps : List Part} {ty k n : Nat} {cs : List Value} (h : EO P gls f ps ty k n cs) : EF P gls f ps (.part (.one (.row k n (cs.map .cell)))) := fun w D vs hD hG hp => by
  refine (h w D vs hD hG hp).mono ?_
  rintro e w' ⟨v, h1, h2, h3⟩
  refine ⟨v, _, h1, rfl, h2, fun M V => ?_⟩
  have h4 : Gr w' D w.heap.size ty k v n (cs.map .cell) := ⟨cs, h3, fits_cells _ _ _⟩
  exact h4.lies (fun g hg => .inl hg) fun g hg => .inr (h3.lt g hg)
theorem e_call_eo {ops : Array Oper} {Q : Exit → Act → World → Prop} (r : Nat) {l : List Oper} {d : Nat} {f : FuncId} {xs : List Operand} {ts : Array TypeId} {ps : List Part} {ty k n : Nat} {cs : List Value}
    (hg : o.guard = none) (hd : o.dst = some d) (hn : Nat.blt d cx.n = true) (ho : o.op = .call { callee := .value (.func f), args := xs.toArray, argTypes := ts }) (hc : callable P f = true) (hf : EO P cx.gl f ps ty k n cs) (hx : KnA T xs ps)
    (hT : norT r T = true) (hB : norB r B = true)
    (hE : E cx ((d, .own r) :: T) B ((r, ⟨ty, k, n, cs.map .cell, false⟩) :: R) (wpList P ops Q l)) (hty : Nat.blt ty 1000000 = true := by rfl) : E cx T B R (wpList P ops Q (o :: l)) := fun M V a w hrel => by
  refine wpList_plain hg fun K hK => ?_
  have hrun : (execOp a.eval o).run P w = .ok (.enter f (xs.map a.eval).toArray) w := by
    have he : a.eval (.func f) = .func (.func f) #[] #[] := rfl
    simp [execOp, ho, resolve, he, Deferred.ofValue, invoke, run_callable hc]
  unfold Oper.wp
  rw [hrun]
  simp only [Oper.upon, hd]
  refine (hf w (Dc cx B R M V w) _ (fun g hg => hrel.heap.dlt hg) hrel.heap.glok (hx.fit fun x z _ hkx => hkx w _ M V a fun t z' _ hz => hrel.tmp t z' hz)).mono ?_
  rintro e w' ⟨v, rfl, hb, hown⟩
  refine hK _ _ ?_
  obtain ⟨V', hVr, hr0⟩ := hrel.own_new hb hown r hT hB hty
  exact hE M V' _ _ (hr0.put (Below.refl _ _) (blt_lt hn) hVr.symm)
theorem s_own_to {x hi : Operand} {t : TypeId} {r ty k n : Nat} {ds : List Dat} {kk : IntKind} {z : Int} (ho : o.op = .slice t x none (some hi) none) (hx : Kn T x (.own r)) (hr : lk r R = some ⟨ty, k, n, ds, false⟩) (hh : Kn T hi (.is (.int kk z))) (hz : 0 ≤ z ∧ z ≤ (n : Int)) (ht : P.underlying t = some (.slice (P.elem t))) (hs : sizeT P (P.elem t) = some k) (hty : Nat.blt ty 1000000 = true := by rfl) :
    LStep P cx B R o T (.via r (SubV 0 z.toNat)) := LStep.same fun M V w a hhr hkk => by
  have h1 : a.eval x = V r := hkk x _ (by simp [ho, Op.operands]) hx
  have h2 := (hkk hi _ (by simp [ho, Op.operands]) hh).is_eq
  obtain ⟨p, cap, hVr, hcap, hp⟩ := hhr.own_slice hr hty
  have h5 := run_slice_h (P := P) (w := w) t p n cap ht kk z hz.1 (by omega)
  rw [run_sizeT hs, Result.andThen_ok, ← run_sliceAt_slice _ _ _ _ _ _ ht] at h5
  refine ⟨sliced p 0 z.toNat cap k, by simp [execOp, ho, h1, h2, hVr, h5], ?_⟩
  refine ⟨_, _, rfl, by omega, fun h0 => ?_⟩
  obtain ⟨g, rfl⟩ := hp (by omega)
  refine ⟨g, n, cap, hVr, ?_⟩
  have : ¬ cap = 0 := by omega
  simp [this, Addr.add]
theorem s_len_sub {x : Operand} {t : TypeId} {r f n : Nat} (ho : o.op = .call { callee := .builtin .len, args := #[x], argTypes := #[t] }) (hx : Kn T x (.via r (SubV f n))) (ht : P.underlying t = some (.slice (P.elem t))) :
    LStep P cx B R o T (.is (.int .i64 (n : Int))) := LStep.same fun M V w a _ hk => by
  obtain ⟨p, c, h1, _⟩ : SubV f n (V r) (a.eval x) := hk x _ (by simp [ho, Op.operands, Call.operands]) hx
  exact ⟨_, by simp [execOp, ho, h1, resolve, invoke, builtin, run_len_slice w t _ p n c ht, goInt], .cell _⟩
theorem kn_imp {x : Operand} {y z : IV} (h : Kn T x y) (hi : Imp y z) : Kn T x z := fun w D M V a hT => hi w D M V _ (h w D M V a hT)
theorem s_faddr_refx {x : Operand} {t : TypeId} {f off : Nat} {ds es : List Dat} (ho : o.op = .fieldAddr t x f) (hx : Kn T x (.ref ds)) (h : foff P t f = some off) (he : ds.drop off = es) : LStep P cx B R o T (.ref es) := he ▸ s_faddr_ref ho hx h
theorem s_iaddr_refx {x i : Operand} {t : TypeId} {k : Nat} {ds es : List Dat} {kk : IntKind} {z : Int} (ho : o.op = .indexAddr t x i) (hx : Kn T x (.ref ds)) (hi : Kn T i (.is (.int kk z))) (hz : 0 ≤ z ∧ z < (P.arrayLen t : Int)) (ht : P.underlying t = some (.array (P.arrayLen t) (P.elem t))) (hs : sizeT P (P.elem t) = some k) (he : ds.drop (z.toNat * k) = es) :
    LStep P cx B R o T (.ref es) := he ▸ s_iaddr_ref ho hx hi hz ht hs
variable {α : Type} {kf : α → Value} [DecidableEq α]
theorem s_dlookx {x i : Operand} {t kt et : TypeId} {n : Nat} {ps : List (α × Dat)} {z : Value} (c : α) (m : Option Dat) (hm : mget c ps = m) (ho : o.op = .lookup t x i true) (hx : Kn T x (.part (.one (.map n (mds kf ps))))) (hi : Kn T i (.is (kf c))) (K : KeyF P kt kf) (ht : P.underlying t = some (.map kt et)) (hz : zeroV P et = some z) :
    LStep P cx B R o T (.tup [.one (m.getD (.cell z)), .one (.cell (.bool m.isSome))]) := hm ▸ s_dlook ho hx hi K ht hz
theorem s_dlook1x {x i : Operand} {t kt et : TypeId} {n : Nat} {ps : List (α × Dat)} {z : Value} {d : Dat} (c : α) (hm : (mget c ps).getD (.cell z) = d) (ho : o.op = .lookup t x i false) (hx : Kn T x (.part (.one (.map n (mds kf ps))))) (hi : Kn T i (.is (kf c))) (K : KeyF P kt kf) (ht : P.underlying t = some (.map kt et)) (hz : zeroV P et = some z) :
    LStep P cx B R o T (.part (.one d)) := hm ▸ s_dlook1 ho hx hi K ht hz
end
def pickA {α : Type} (L : List Bool) : List Nat → List (Nat × Nat × α) → List (Nat × α)
  | _, [] => []
  | sn, (i, s, y) :: es => bif L.getD i false && !(sn.any fun c => Nat.beq c s) then (s, y) :: pickA L (s :: sn) es else pickA L sn es
section
variable {P : Program} {cx : Cx} {T0 : TL} {B0 : BL} {R0 : RL} {ops : Array Oper} {Q : Exit → Act → World → Prop} {deps : List (List Nat)} {es : List (Nat × Nat × IV)} {bs : List (Nat × Nat × Bx)} {rs : List (Nat × Nat × Rw)}
def AllStepsR (P : Program) (cx : Cx) (T0 : TL) (B0 : BL) (R0 : RL) (ops : Array Oper) (Q : Exit → Act → World → Prop) (es : List (Nat × Nat × IV)) (bs : List (Nat × Nat × Bx)) (rs : List (Nat × Nat × Rw)) : List (List Bool × Nat) → Prop
  | [] => True
  | (L, i) :: r => (∀ K, E cx (T0 ++ pickA (L.set i true) [] es) (pickA (L.set i true) [] bs ++ B0) (pickA (L.set i true) [] rs ++ R0) K → E cx (T0 ++ pickA L [] es) (pickA L [] bs ++ B0) (pickA L [] rs ++ R0) (wpOp P ops Q i K)) ∧ AllStepsR P cx T0 B0 R0 ops Q es bs rs r
theorem AllStepsR.get : ∀ {st : List (List Bool × Nat)} (_ : AllStepsR P cx T0 B0 R0 ops Q es bs rs st) {L : List Bool} {i : Nat}, (L, i) ∈ st → ∀ K, E cx (T0 ++ pickA (L.set i true) [] es) (pickA (L.set i true) [] bs ++ B0) (pickA (L.set i true) [] rs ++ R0) K → E cx (T0 ++ pickA L [] es) (pickA L [] bs ++ B0) (pickA L [] rs ++ R0) (wpOp P ops Q i K)
  | (L', j) :: r, h, L, i, hm => by
    rcases List.mem_cons.1 hm with e | hm
    · injection e with e1 e2
      subst e1 e2
      exact h.1
    · exact AllStepsR.get h.2 hm
  | [], _, _, _, hm => by cases hm
theorem e_statesR {L0 full : List Bool} {reach : List (List Bool)} {steps : List (List Bool × Nat)} (hd : depsOf ops = deps) (hB : dagB deps L0 full reach steps = true) (hs : AllStepsR P cx T0 B0 R0 ops Q es bs rs steps) (hend : E cx (T0 ++ pickA full [] es) (pickA full [] bs ++ B0) (pickA full [] rs ++ R0) (Q .normal)) :
    ∀ (m : Nat) (L : List Bool), L.count false = m → L ∈ reach → E cx (T0 ++ pickA L [] es) (pickA L [] bs ++ B0) (pickA L [] rs ++ R0) (wpAny P .any ops Q m L.toArray) := by
  simp only [dagB, Bool.and_eq_true] at hB
  have hall := List.all_eq_true.1 hB.2
  intro m
  induction m with
  | zero =>
    intro L hm hL
    have h := hall L hL
    cases hf : (L == full) with
    | true =>
      rw [hf] at h
      simp only [cond_true, Bool.and_eq_true] at h
      rw [beq_iff_eq] at hf
      subst hf
      exact e_any0 hd h.1 hend
    | false =>
      rw [hf] at h
      simp only [cond_false, Bool.and_eq_true] at h
      cases hr : readyC L 0 deps with
      | nil => rw [hr] at h; exact absurd h.1 (by decide)
      | cons i is =>
        have h2 := List.all_eq_true.1 h.2 i (by rw [hr]; exact List.mem_cons_self)
        simp only [Bool.and_eq_true, beq_iff_eq] at h2
        omega
  | succ m ih =>
    intro L hm hL
    have h := hall L hL
    cases hf : (L == full) with
    | true =>
      rw [hf] at h
      simp only [cond_true, Bool.and_eq_true, beq_iff_eq] at h
      omega
    | false =>
      rw [hf] at h
      simp only [cond_false, Bool.and_eq_true, Bool.not_eq_true'] at h
      refine e_any hd h.1 (AnyE.of fun i hi => ?_)
      have h2 := List.all_eq_true.1 h.2 i hi
      simp only [Bool.and_eq_true, beq_iff_eq, List.contains_iff_mem] at h2
      exact hs.get h2.1.1 _ (ih _ (by omega) h2.1.2)
theorem e_subR {T T' : TL} {B B' : BL} {R R' : RL} {K : Act → World → Prop} (hK : E cx T' B' R' K) (hT : SubT T T') (hB : SubB B B') (hR : SubR R R') : E cx T B R K := e_sub hT hB hR hK
theorem e_draw_sr {id : Nat} {l : List Oper} (n : Nat) (deps : List (List Nat)) (reach : List (List Bool)) (steps : List (List Bool × Nat)) (es : List (Nat × Nat × IV)) (bs : List (Nat × Nat × Bx)) (rs : List (Nat × Nat × Rw)) {T : TL} {B : BL} {R : RL} (T0 : TL) (B0 : BL) (R0 : RL) (hd : depsOf l.toArray = deps) (hn : l.toArray.size = n) (hm : P.follows .mixedOrders = true) (hB : dagB deps (List.replicate n false) (List.replicate n true) reach steps = true) (hc : (List.replicate n false).count false = n)
    (h0 : ∀ K, E cx (T0 ++ pickA (List.replicate n false) [] es) (pickA (List.replicate n false) [] bs ++ B0) (pickA (List.replicate n false) [] rs ++ R0) K → E cx T B R K) (hs : AllStepsR P cx T0 B0 R0 l.toArray Q es bs rs steps) (hend : E cx (T0 ++ pickA (List.replicate n true) [] es) (pickA (List.replicate n true) [] bs ++ B0) (pickA (List.replicate n true) [] rs ++ R0) (Q .normal)) : E cx T B R ((Code.region id l.toArray true).wp P Q) := by
  refine e_draw_any n _ deps hd hn hm rfl fun _ => h0 _ ?_
  refine e_statesR hd hB hs hend n _ hc ?_
  simp only [dagB, Bool.and_eq_true, List.contains_iff_mem] at hB
  exact hB.1
end
end Go.Proofs.YtekeanikgcpijaaGreatDoor
