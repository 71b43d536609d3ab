/- Part 12 of what the last text of this claim is proved by: walks over the program, and the math behind them. Conditions: as each theorem says. -/
import Derived.Test.YtekeanikgcpijaaDoorSO11
import Derived.Carry
import Derived.Laws.Slices
import Derived.Laws.StructEq
import Derived.Test.YtekeanikgcpijaaDoorProg
import Derived.Laws.BytesArg
import Derived.WalkSpells
import Derived.WalkLawsBesides
import Derived.Laws.Strings3
import Derived.Lib.BufferWrite
import Derived.Lib.UnsafeStr
import Derived.Laws.MakeOwn
import Derived.OwnWalk
namespace Go.Proofs.YtekeanikgcpijaaDoor
open Go.RowKit
section
variable {P : Program} {cx : Cx} {T : TL} {B : BL} {R : RL} {o : Oper}
theorem e_mmap (r ty k : Nat) {ops : Array Oper} {Q : Exit → Act → World → Prop} {l : List Oper} {d : Nat} {t : TypeId} (hg : o.guard = none) (hd : o.dst = some d) (hn : Nat.blt d cx.n = true) (ho : o.op = .makeMap t none)
    (hT : norT r T = true) (hB : norB r B = true) (hE : E cx ((d, .own r) :: T) B ((r, ⟨ty, k, 0, [], false⟩) :: R) (wpList P ops Q l)) (hty : Nat.blt ty 1000000 = false := by rfl) : E cx T B R (wpList P ops Q (o :: l)) := fun M V a w hrel => by
  refine wpList_plain hg fun K hK => ?_
  have hb : Below w.heap.size w (w.alloc (.map #[] 0)) := (Below.refl _ _).alloc (Nat.le_refl _) _
  have h1 : Rel cx ((d, .junk) :: T) B R M V (a.put (some d) (.map (some w.heap.size))) (w.alloc (.map #[] 0)) := hrel.put hb (blt_lt hn) trivial
  have hh := h1.heap
  have hsz := hrel.heap.below.size
  let v : Value := .map (some w.heap.size)
  let V' : Nat → Value := fun q => if q = r then v else V q
  have hVr : V' r = v := if_pos rfl
  have hV : ∀ q, q ≠ r → V' q = V q := fun q h => if_neg h
  have hob : obk v = some w.heap.size := rfl
  have hmade : MapRow (w.alloc (.map #[] 0)) 0 ty v 0 [] := ⟨hty, w.heap.size, #[], 0, rfl, Nat.zero_le _, heap_alloc_new w _, rfl, rfl⟩
  have hold : ∀ q x g, lk q R = some x → x.fz = false → obk (V q) = some g → g < w.heap.size := fun q x g hx hf hg => by
    have h1 := hrel.heap.row q x hx
    rw [hf] at h1
    obtain ⟨ys, a2, _⟩ := h1
    exact (a2.lt g hg).2
  have hoB : ∀ b x, lk b B = some x → M b < w.heap.size := fun b x hx => by
    obtain ⟨_, cs, h2, _⟩ := hrel.heap.box b x hx
    exact h2.lt
  have hk := hrel.heap.keeps hb
  have hD : ∀ g, Dc cx B R M V w g → Dc cx B ((r, ⟨ty, k, 0, [], false⟩) :: R) M V' (w.alloc (.map #[] 0)) g := fun g hg => by
    have hgl := hrel.heap.dlt hg
    rcases hg with hg | ⟨a1, a2, a3, a4⟩
    · exact .inl hg
    · refine .inr ⟨a1, by have := hb.size; omega, a3, fun q x hx hf e => ?_⟩
      rcases lk_cons hx with ⟨rfl, _⟩ | ⟨hne, hx⟩
      · rw [hVr, hob] at e
        have : w.heap.size = g := by simpa using e
        omega
      · rw [hV q (Ne.symm hne)] at e
        exact a4 q x hx hf e
  have hrel' : Rel cx ((d, .own r) :: T) B ((r, ⟨ty, k, 0, [], false⟩) :: R) M V' (a.put (some d) v) (w.alloc (.map #[] 0)) := by
    refine ⟨h1.size, h1.defers, ⟨hh.below, hh.d0, hh.bl, hh.gl, fun b x hx => ?_, fun q x hx => ?_, fun q x g hx hf hg => ?_, hh.pin, hh.bb, fun b q x y g hx hy hf hg => ?_, fun q p x y g hx hy hf hf' hg hg' => ?_⟩, fun t x hx => ?_⟩
    · obtain ⟨a1, cs, a2, a3⟩ := hrel.heap.box b x hx
      have hn := List.all_eq_true.1 hB _ (lk_mem hx)
      have a4 : CFit w (Dc cx B R M V w) M V' x.cs cs := ⟨a3.1, fun j y v h1 h2 => ⟨(a3.2 j y v h1 h2).1.newV hV (List.all_eq_true.1 hn _ (List.mem_of_getElem? h1)), (a3.2 j y v h1 h2).2⟩⟩
      exact ⟨a1, cs, a2.kept hb, a4.stay hk hD⟩
    · rcases lk_cons hx with ⟨rfl, rfl⟩ | ⟨hne, hx⟩
      · rw [hVr]
        exact (⟨[], .inr hmade, Fits.nil _ _⟩ : Gx _ _ _ _ _ _ _ _)
      · rw [hV q (Ne.symm hne)]
        have h1 := hrel.heap.row q x hx
        split
        · rename_i hf
          rw [if_pos hf] at h1
          exact h1.stay hk hD
        · rename_i hf
          rw [if_neg hf] at h1
          obtain ⟨xs, a2, a3⟩ := h1
          exact ⟨xs, Ow.stay a2 fun g hg => hb.block g (a2.lt g hg).2, a3.stay hk hD⟩
    · rcases lk_cons hx with ⟨rfl, rfl⟩ | ⟨hne, hx⟩
      · rw [hVr, hob] at hg
        have : w.heap.size = g := by simpa using hg
        exact .inl (by omega)
      · rw [hV q (Ne.symm hne)] at hg
        exact hh.ro q x g hx hf hg
    · rcases lk_cons hy with ⟨rfl, rfl⟩ | ⟨hne, hy⟩
      · rw [hVr, hob] at hg
        have : w.heap.size = g := by simpa using hg
        have := hoB b x hx
        omega
      · rw [hV q (Ne.symm hne)] at hg
        exact hh.br b q x y g hx hy hf hg
    · rcases lk_cons hx with ⟨rfl, rfl⟩ | ⟨hne, hx⟩
      · rcases lk_cons hy with ⟨rfl, rfl⟩ | ⟨hne', hy⟩
        · rfl
        · rw [hVr, hob] at hg
          rw [hV p (Ne.symm hne')] at hg'
          have : w.heap.size = g := by simpa using hg
          have := hold p y g hy hf' hg'
          omega
      · rcases lk_cons hy with ⟨rfl, rfl⟩ | ⟨hne', hy⟩
        · rw [hVr, hob] at hg'
          rw [hV q (Ne.symm hne)] at hg
          have : w.heap.size = g := by simpa using hg'
          have := hold q x g hx hf hg
          omega
        · rw [hV q (Ne.symm hne)] at hg
          rw [hV p (Ne.symm hne')] at hg'
          exact hh.rr q p x y g hx hy hf hf' hg hg'
    · rw [getD_put a d t _ (by rw [hrel.size]; exact blt_lt hn)]
      rcases lk_cons hx with ⟨rfl, rfl⟩ | ⟨hne, hx⟩
      · rw [if_pos rfl]
        exact hVr.symm
      · rw [if_neg hne]
        exact ((hrel.tmp t x hx).newV hV (List.all_eq_true.1 hT _ (lk_mem hx))).stay hk hD
  have := hK _ _ (hE M V' _ _ hrel')
  unfold Oper.wp execOp
  simp only [ho, Option.map_none, Sem.run_bind]
  simp only [run_makeMap, Result.andThen_ok, Sem.run_pure, Oper.upon, hd]
  exact this
theorem add_none (b o k : Nat) : (⟨b, o, none⟩ : Addr).add k = ⟨b, o + k, none⟩ := by unfold Addr.add; split <;> simp_all
end
end Go.Proofs.YtekeanikgcpijaaDoor
namespace Go.Proofs.YtekeanikgcpijaaDoor
open Go.RowKit
theorem Imp.ptr_ref (t : TypeId) (ds : List Dat) : Imp (.part (.one (.ptr t ds))) (.ref ds) := fun w D M V v h => by
  have h' : Lies w D (.ptr t ds) v := h
  cases h' with
  | ptr b t ds xs hD hb hl hx => exact ⟨b, 0, rfl, hD, xs, ⟨hl, fun j d x h1 h2 => hx j d x h1 h2⟩, fun j x hj => by rw [Nat.zero_add, hb.cell]; exact hj⟩
section
variable {P : Program} {cx : Cx} {T : TL} {B : BL} {R : RL} {o : Oper}
theorem s_iaddr_box {x i : Operand} {t : TypeId} {b j k : Nat} {kk : IntKind} {z : Int} (ho : o.op = .indexAddr t x i) (hx : Kn T x (.box b j)) (hi : Kn T i (.is (.int kk z))) (hz : 0 ≤ z ∧ z < (P.arrayLen t : Int)) (ht : P.underlying t = some (.array (P.arrayLen t) (P.elem t))) (hs : sizeT P (P.elem t) = some k) :
    LStep P cx B R o T (.box b (j + z.toNat * k)) := LStep.same fun M V w a hh hk => by
  have h1 : a.eval x = .pointer (some ⟨M b, j, none⟩) := hk x _ (by simp [ho, Op.operands]) hx
  have h2 := (hk i _ (by simp [ho, Op.operands]) hi).is_eq
  have h7 := run_indexAt_array (P := P) w t ⟨M b, j, none⟩ kk z ht
  rw [if_pos ⟨hz.1, hz.2⟩, run_sizeT hs, Result.andThen_ok, add_none] at h7
  exact ⟨_, by simp [execOp, ho, h1, h2, h7], rfl⟩
theorem s_iaddr_ref {x i : Operand} {t : TypeId} {k : Nat} {ds : List Dat} {kk : IntKind} {z : Int} (ho : o.op = .indexAddr t x i) (hx : Kn T x (.ref ds)) (hi : Kn T i (.is (.int kk z))) (hz : 0 ≤ z ∧ z < (P.arrayLen t : Int)) (ht : P.underlying t = some (.array (P.arrayLen t) (P.elem t))) (hs : sizeT P (P.elem t) = some k) :
    LStep P cx B R o T (.ref (ds.drop (z.toNat * k))) := LStep.same fun M V w a hh hk => by
  obtain ⟨b, f, h1, hD, xs, hf, hc⟩ := hk x _ (by simp [ho, Op.operands]) hx
  have h2 := (hk i _ (by simp [ho, Op.operands]) hi).is_eq
  have h7 := run_indexAt_array (P := P) w t ⟨b, f, none⟩ kk z ht
  rw [if_pos ⟨hz.1, hz.2⟩, run_sizeT hs, Result.andThen_ok, add_none] at h7
  refine ⟨_, by simp [execOp, ho, h1, h2, h7], b, f + z.toNat * k, rfl, hD, xs.drop (z.toNat * k), ⟨by simp [hf.1], fun j d x hd hx => ?_⟩, fun j x hx => ?_⟩
  · rw [List.getElem?_drop] at hd hx
    exact hf.2 _ d x hd hx
  · rw [List.getElem?_drop] at hx
    have := hc _ x hx
    rw [← this]
    congr 2
    omega
theorem s_aslice_ref {x hi : Operand} {t : TypeId} {k : Nat} {ds es : List Dat} {kk : IntKind} {z : Int} (ho : o.op = .slice t x none (some hi) none) (hx : Kn T x (.ref ds)) (hh : Kn T hi (.is (.int kk z))) (hz : 0 ≤ z ∧ z ≤ (P.arrayLen t : Int)) (hpos : 0 < P.arrayLen t) (ht : P.underlying t = some (.array (P.arrayLen t) (P.elem t))) (hs : sizeT P (P.elem t) = some k) (hl : z.toNat * k ≤ ds.length) (hes : ds.take (z.toNat * k) = es) :
    LStep P cx B R o T (.part (.one (.row k z.toNat es))) := LStep.same fun M V w a _ hkk => by
  obtain ⟨b, f, h1, hD, xs, hf, hc⟩ := hkk x _ (by simp [ho, Op.operands]) hx
  have h2 := (hkk hi _ (by simp [ho, Op.operands]) hh).is_eq
  have h5 := run_sliceAt_array_h (P := P) w t ⟨b, f, none⟩ ht kk z hz.1 hz.2
  rw [run_sizeT hs, Result.andThen_ok] at h5
  refine ⟨slicedAt ⟨b, f, none⟩ 0 z.toNat (P.arrayLen t) k, by simp [execOp, ho, h1, h2, h5], ?_⟩
  show Lies w _ (.row k z.toNat es) (slicedAt ⟨b, f, none⟩ 0 z.toNat (P.arrayLen t) k)
  have h0 : ¬ P.arrayLen t = 0 := by omega
  unfold slicedAt
  rw [if_neg h0, Nat.zero_mul, add_none, Nat.add_zero, Nat.sub_zero, Nat.sub_zero]
  subst hes
  rcases Nat.eq_zero_or_pos z.toNat with hz0 | hz0
  · rw [hz0, Nat.zero_mul, List.take_zero]
    exact .none k _ _
  · have hlx : ds.length = xs.length := hf.1
    refine .row k z.toNat b f (P.arrayLen t) _ (fun j => xs[j]?.getD undef) hz0 (by omega) (by simp; omega) hD (fun j hj => ?_) fun j d hd => ?_
    · have hj' : j < xs.length := by simp at hj; omega
      rw [List.getElem?_eq_getElem hj', Option.getD_some]
      exact hc j _ (List.getElem?_eq_getElem hj')
    · rw [List.getElem?_take] at hd
      split at hd
      · have hj' : j < xs.length := by
          rw [← hlx]
          rcases Nat.lt_or_ge j ds.length with h | h
          · exact h
          · rw [List.getElem?_eq_none h] at hd; cases hd
        rw [List.getElem?_eq_getElem hj', Option.getD_some]
        exact hf.2 j d _ hd (List.getElem?_eq_getElem hj')
      · cases hd
def shD (R : RL) : IV → Option Dat
  | .part (.one d) => some d
  | .own r => (lk r R).map datOf
  | _ => none
def shows (R : RL) : List IV → Option (List Dat)
  | [] => some []
  | x :: l => match shD R x, shows R l with | some d, some ds => some (d :: ds) | _, _ => none
theorem shows_len : ∀ {l : List IV} {ds : List Dat}, shows R l = some ds → l.length = ds.length
  | [], ds, h => by
    obtain rfl := Option.some.inj h
    rfl
  | x :: l, ds, h => by
    unfold shows at h
    split at h
    · rename_i h2
      obtain rfl := Option.some.inj h
      simp [shows_len h2]
    · cases h
theorem shows_get : ∀ {l : List IV} {ds : List Dat} (_ : shows R l = some ds) {j : Nat} {x : IV} {d : Dat}, l[j]? = some x → ds[j]? = some d → shD R x = some d
  | [], ds, h, j, x, d, hx, hd => by simp at hx
  | y :: l, ds, h, j, x, d, hx, hd => by
    unfold shows at h
    split at h
    · rename_i h1 h2
      obtain rfl := Option.some.inj h
      cases j with
      | zero =>
        obtain rfl : y = x := by simpa using hx
        obtain rfl : _ = d := by simpa using hd
        exact h1
      | succ j => exact shows_get h2 (j := j) (by simpa using hx) (by simpa using hd)
    · cases h
theorem shows_data (ds : List Dat) : shows R (bcs ds) = some ds := by
  induction ds with
  | nil => rfl
  | cons d ds ih =>
    show shows R (.part (.one d) :: bcs ds) = _
    unfold shows
    rw [ih]
    rfl
theorem shows_append : ∀ {l m : List IV} {ds es : List Dat}, shows R l = some ds → shows R m = some es → shows R (l ++ m) = some (ds ++ es)
  | [], m, ds, es, h1, h2 => by
    obtain rfl := Option.some.inj h1
    exact h2
  | x :: l, m, ds, es, h1, h2 => by
    unfold shows at h1
    split at h1
    · rename_i h3 h4
      obtain rfl := Option.some.inj h1
      show shows R (x :: (l ++ m)) = _
      unfold shows
      rw [h3, shows_append h4 h2]
      rfl
    · cases h1
def Far (y y' : IV) : Prop := ∀ (w : World) (D : Nat → Prop) (M : Nat → Nat) (V : Nat → Value) (w' : World) (D' : Nat → Prop) (M' : Nat → Nat) (V' : Nat → Value) (v : Value), VR w D M V y v → VR w' D' M' V' y' v
theorem Far.is (v : Value) : Far (.is v) (.is v) := fun w D M V w' D' M' V' u h => by
  obtain rfl := VR.is_eq h
  exact .cell _
theorem pfit_far {w w' : World} {D D' : Nat → Prop} (cs : List Value) {u : Value} (h : PFit w D (.many (cs.map .cell)) u) : PFit w' D' (.many (cs.map .cell)) u := by
  obtain ⟨xs, h1, h2⟩ := h
  obtain rfl := h2.cells
  exact ⟨xs, h1, .of_cells _ _ _⟩
theorem Far.many1 (cs : List Value) (v : Value) : Far (.tup [.many (cs.map .cell), .one (.cell v)]) (.tup [.many (cs.map .cell), .one (.cell v)]) := fun w D M V w' D' M' V' u h => by
  obtain ⟨vs, h1, h2⟩ := h
  match vs, h1, h2 with
  | [a, b], h1, h2 =>
    obtain rfl := Lies.cell_eq h2.2.1
    exact ⟨[a, b], h1, pfit_far cs h2.1, .cell _, trivial⟩
def LenV (n : Nat) (_ v : Value) : Prop := ∃ p c, v = .slice p n c
theorem Far.row (r k n : Nat) (ds : List Dat) : Far (.part (.one (.row k n ds))) (.via r (LenV n)) := fun w D M V w' D' M' V' u h => by
  obtain ⟨p, c, h1⟩ := row_shape h
  exact ⟨p, c, h1⟩
theorem s_len_via {x : Operand} {t : TypeId} {r n : Nat} (ho : o.op = .call { callee := .builtin .len, args := #[x], argTypes := #[t] }) (hx : Kn T x (.via r (LenV n))) (ht : P.underlying t = some (.slice (P.elem t))) :
    LStep P cx B R o T (.is (.int .i64 (n : Int))) := LStep.same fun M V w a _ hk => by
  obtain ⟨p, c, h1⟩ : LenV n (V r) (a.eval x) := hk x _ (by simp [ho, Op.operands, Call.operands]) hx
  exact ⟨_, by simp [execOp, ho, h1, resolve, invoke, builtin, run_len_slice w t _ p n c ht, goInt], .cell _⟩
theorem Gx.dat {w : World} {D D' : Nat → Prop} {base : Nat} {x : Rw} {v : Value} (h : Gx w D base x.ty x.k v x.n x.ds) (hD : ∀ g, D g → D' g) (hv : ∀ g, obk v = some g → D' g) : Lies w D' (datOf x) v := by
  have hk := Keeps.refl D w
  rcases hty : Nat.blt x.ty 1000000 with _ | _
  · rw [datOf_map hty]
    obtain ⟨xs, ⟨h3, _⟩ | ⟨_, g, es, c, e1, _, e2, e3, e4⟩, h5⟩ := h
    · rw [hty] at h3; cases h3
    · rw [e1]
      exact .map g x.n es c x.ds xs (hv g (by rw [e1]; rfl)) e2 e3 e4 h5.1 fun j d y a b => (h5.2 j d y a b).stay hk hD
  · rw [datOf_row hty]
    have h3 := h.row hty
    refine h3.lies hD fun g hg => hv g ?_
    obtain ⟨xs, a2, _⟩ := h3
    exact (obk_row a2).trans hg
theorem s_show {f : FuncId} {x : Operand} {xs : List Operand} {ts : Array TypeId} {b : Nat} {bx : Bx} {ds : List Dat} {ps : List Part} {y y' : IV} (ho : o.op = .call { callee := .value (.func f), args := (x :: xs).toArray, argTypes := ts }) (hc : callable P f = true) (hf : EF P cx.gl f (.one (.ptr bx.ty ds) :: ps) y) (hx : Kn T x (.box b 0)) (hb : lk b B = some bx) (hm : shows R bx.cs = some ds) (hxs : KnA T xs ps) (hy : Far y y') : LStep P cx B R o T y' := fun M V w a hh ht => by
  have hkk : ∀ y z, y ∈ x :: xs → Kn T y z → VR w (Dc cx B R M V w) M V z (a.eval y) := fun y z hm hkx => hkx w _ M V a fun t z' e hz => ht t z' (by
    subst e
    rw [ho]
    simpa [Op.operands, Call.operands] using hm) hz
  have hrun : (execOp a.eval o).run P w = .ok (.enter f ((x :: xs).map a.eval).toArray) w := by
    have he : a.eval (.func f) = .func (.func f) #[] #[] := rfl
    simp [execOp, ho, resolve, he, Deferred.ofValue, invoke, run_callable hc]
  rw [hrun]
  have hxv : a.eval x = .pointer (some ⟨M b, 0, none⟩) := hkk x _ (by simp) hx
  obtain ⟨hown, cells, hblk, hfit⟩ := hh.box b bx hb
  have hlt := hblk.lt
  have hD : ∀ g, Dc cx B R M V w g → g < w.heap.size := fun g hg => hh.dlt hg
  have hps : PsFit w (Dc cx B R M V w) ps (xs.map a.eval) := hxs.fit fun y z hm hkx => hkk y z (by simp [hm]) hkx
  let D' : Nat → Prop := fun g => Dc cx B R M V w g ∨ g = M b ∨ ∃ r x, lk r R = some x ∧ x.fz = false ∧ obk (V r) = some g
  have hk := Keeps.refl (Dc cx B R M V w) w
  have hDD : ∀ g, Dc cx B R M V w g → D' g := fun g h => .inl h
  have hD' : ∀ g, D' g → g < w.heap.size := fun g hg => by
    rcases (show Dc cx B R M V w g ∨ g = M b ∨ ∃ r x, lk r R = some x ∧ x.fz = false ∧ obk (V r) = some g from hg) with hg | rfl | ⟨r, x, h1, h2, h3⟩
    · exact hD g hg
    · exact hlt
    · have h4 := hh.row r x h1
      rw [h2] at h4
      obtain ⟨zs, h5, _⟩ : Gx w (Dc cx B R M V w) 0 x.ty x.k (V r) x.n x.ds := h4
      exact (h5.lt g h3).2
  have hcell : ∀ (j : Nat) d u, ds[j]? = some d → cells[j]? = some u → Lies w D' d u := fun j d u hd hu => by
    have hlen := shows_len hm
    have hj : j < bx.cs.length := by
      rw [hlen]
      rcases Nat.lt_or_ge j ds.length with h | h
      · exact h
      · rw [List.getElem?_eq_none h] at hd; cases hd
    have hxj := List.getElem?_eq_getElem hj
    have h1 := shows_get hm hxj hd
    have h2 := (hfit.2 j _ u hxj hu).1
    generalize bx.cs[j] = q at h1 h2
    cases q with
    | part p =>
      cases p with
      | one e =>
        obtain rfl := Option.some.inj h1
        exact Lies.stay h2 hk hDD
      | many es => cases h1
    | own r =>
      have h3 : u = V r := h2
      subst h3
      cases hr : lk r R with
      | none => simp [shD, hr] at h1
      | some y =>
        have : datOf y = d := by simpa [shD, hr] using h1
        subst this
        have h4 := hh.row r y hr
        cases hfz : y.fz with
        | true =>
          rw [if_pos hfz] at h4
          exact h4.stay hk hDD
        | false =>
          rw [hfz] at h4
          exact Gx.dat (show Gx w (Dc cx B R M V w) 0 y.ty y.k (V r) y.n y.ds from h4) hDD fun g hg => .inr (.inr ⟨r, y, hr, hfz, hg⟩)
    | _ => cases h1
  have hp0 : PFit w D' (.one (.ptr bx.ty ds)) (a.eval x) := by
    rw [hxv]
    exact .ptr (M b) bx.ty ds cells (.inr (.inl rfl)) hblk ((shows_len hm).symm.trans hfit.1) hcell
  refine ⟨rfl, (hf w D' (a.eval x :: xs.map a.eval) hD' hh.glok ⟨hp0, hps.stay hk hDD⟩).mono fun e w' ⟨v, y0, h1, h2, h3, h4⟩ => ?_⟩
  subst h2
  exact ⟨v, h1, h3, hy _ _ _ _ _ _ _ _ _ (h4 M V)⟩
variable {ops : Array Oper} {Q : Exit → Act → World → Prop} {l : List Oper}
theorem e_build_two {o1 o2 : Oper} {d1 d2 : Nat} {t t2 : TypeId} {x1 x2 : Operand} {i1 i2 p1 p2 r1 r2 : Nat} {places : List (Nat × Nat)} {zs : List Value} (b : Nat) {z1 z2 : Rw}
    (g1 : o1.guard = none) (e1 : o1.dst = some d1) (n1 : Nat.blt d1 cx.n = true) (q1 : o1.op = .build t #[(i1, x1), (i2, x2)]) (hpl : placesT P t = some places) (hz : zeroT P t = some zs) (hp1 : places[i1]? = some (p1, 1)) (hp2 : places[i2]? = some (p2, 1)) (hl1 : p1 < zs.length) (hl2 : p2 < zs.length)
    (hx1 : Kn T x1 (.own r1)) (hx2 : Kn T x2 (.own r2)) (hr1 : lk r1 R = some z1) (hr2 : lk r2 R = some z2) (hf1 : z1.fz = false) (hf2 : z2.fz = false)
    (g2 : o2.guard = none) (e2 : o2.dst = some d2) (n2 : Nat.blt d2 cx.n = true) (q2 : o2.op = .box t2 (.tmp d1)) (h1 : zs.all (·.oneCell') = true)
    (hpn : cx.pn.all (fun c => !Nat.beq c b) = true) (hT : nobT b T = true) (hB : nobB b B = true)
    (hE : E cx ((d2, .box b 0) :: (d1, .junk) :: T) ((b, ⟨t2, ((zs.map IV.is).set p1 (.own r1)).set p2 (.own r2)⟩) :: B) R (wpList P ops Q l)) : E cx T B R (wpList P ops Q (o1 :: o2 :: l)) := fun M V a w hr => by
  have hv1 : a.eval x1 = V r1 := hx1 w (Dc cx B R M V w) M V a fun t z _ hz => hr.tmp t z hz
  have hv2 : a.eval x2 = V r2 := hx2 w (Dc cx B R M V w) M V a fun t z _ hz => hr.tmp t z hz
  have hone : ∀ r z, lk r R = some z → z.fz = false → (V r).oneCell' = true := fun r z hz hf => by
    have h4 := hr.heap.row r z hz
    rw [hf] at h4
    obtain ⟨ys, h5, _⟩ : Gx w (Dc cx B R M V w) 0 z.ty z.k (V r) z.n z.ds := h4
    rcases h5 with ⟨_, h5⟩ | ⟨_, g, es, c, h5, _⟩
    · rcases h5.2 with ⟨h6, _⟩ | ⟨g, cap, cur, h6, _⟩ <;> (rw [h6]; rfl)
    · rw [h5]; rfl
  have hone1 := hone r1 z1 hr1 hf1
  have hone2 := hone r2 z2 hr2 hf2
  cases hu : P.underlying t with
  | none => simp [placesT, hu] at hpl
  | some dd =>
    cases dd <;> simp only [placesT, hu] at hpl <;> try cases hpl
    rename_i fs
    cases hi : P.info? t with
    | none => simp [zeroT, hi] at hz
    | some it =>
      cases hzz : it.zero with
      | none => simp [zeroT, hi, hzz] at hz
      | some zv =>
        have hzc : zv.cells.toList = zs := by simpa [zeroT, hi, hzz] using hz
        have hsz : zv.cells.size = zs.length := by rw [← hzc]; simp
        have hcl : ∀ v : Value, v.oneCell' = true → v.cells = #[v] := fun v hv => by
          revert hv
          cases v <;> intro h <;> first | rfl | cases h
        let out := (zv.cells.setIfInBounds p1 (V r1)).setIfInBounds p2 (V r2)
        have hout : out.toList = (zs.set p1 (V r1)).set p2 (V r2) := by simp [out, hzc]
        have hb : P.built t [(i1, V r1), (i2, V r2)] = some out := by
          unfold Program.built
          rw [hi, hu]
          simp only [hzz, hpl]
          have k1 := hcl _ hone1
          have k2 := hcl _ hone2
          have q1' : places.toArray[i1]? = some (p1, 1) := by simpa using hp1
          have q2' : places.toArray[i2]? = some (p2, 1) := by simpa using hp2
          simp only [Instr.fill, q1', q2', k1, k2]
          have hl1' : ¬ zv.cells.size ≤ p1 := by omega
          have hl2' : ¬ zv.cells.size ≤ p2 := by omega
          simp [hl1', hl2', out]
          omega
        have hrun1 := run_build (P := P) w t #[(i1, V r1), (i2, V r2)] out (by simpa using hb)
        have hrun : (execOp a.eval o1).run P w = .ok (.value (.agg out)) w := by
          have hmap : (#[(i1, x1), (i2, x2)] : Array (Nat × Operand)).map (fun x => (x.1, a.eval x.2)) = #[(i1, V r1), (i2, V r2)] := by simp [hv1, hv2]
          unfold execOp
          simp only [q1]
          rw [hmap, Sem.run_bind, hrun1]
          rfl
        refine wpList_plain g1 fun K hK => ?_
        unfold Oper.wp
        rw [hrun]
        simp only [Oper.upon, e1]
        refine hK _ _ ?_
        have hr1' : Rel cx ((d1, .junk) :: T) B R M V (a.put (some d1) (.agg out)) w := hr.put (Below.refl _ _) (blt_lt n1) trivial
        have v1 : (a.put (some d1) (.agg out)).eval (.tmp d1) = .agg out := by rw [put_get (by rw [hr.size]; exact blt_lt n1), if_pos rfl]
        generalize a.put (some d1) (.agg out) = a1 at hr1' v1 ⊢
        refine wpList_plain g2 fun K hK => ?_
        have hc : CFit w (Dc cx B R M V w) M V (((zs.map IV.is).set p1 (.own r1)).set p2 (.own r2)) out.toList := ⟨by rw [hout]; simp, fun j y v hy hvv => by
          rw [hout] at hvv
          rw [List.getElem?_set] at hy hvv
          split at hy
          · rename_i h
            rw [if_pos h] at hvv
            split at hy
            · obtain rfl := Option.some.inj hy
              rw [if_pos (by simpa using hl2)] at hvv
              obtain rfl := Option.some.inj hvv
              exact ⟨rfl, hone2⟩
            · cases hy
          · rename_i h
            rw [if_neg h] at hvv
            rw [List.getElem?_set] at hy hvv
            split at hy
            · rename_i h'
              rw [if_pos h'] at hvv
              split at hy
              · obtain rfl := Option.some.inj hy
                rw [if_pos hl1] at hvv
                obtain rfl := Option.some.inj hvv
                exact ⟨rfl, hone1⟩
              · cases hy
            · rename_i h'
              rw [if_neg h'] at hvv
              exact cfit_is zs hy hvv h1⟩
        obtain ⟨M', hr'⟩ := hr1'.alloc b t2 hpn (by simp [nobT, IV.nob]; simpa [nobT] using hT) hB (by
          rw [List.all_eq_true]
          intro y hy
          rcases List.mem_or_eq_of_mem_set hy with hy | rfl
          · rcases List.mem_or_eq_of_mem_set hy with hy | rfl
            · rw [List.mem_map] at hy
              obtain ⟨z, _, rfl⟩ := hy
              rfl
            · rfl
          · rfl) hc (d := d2) (blt_lt n2)
        have := hK _ _ (hE M' V _ _ hr')
        unfold Oper.wp execOp
        simp only [q2, v1, Sem.run_bind]
        simp [Instr.box, newVar, newRow, Value.cells, Oper.upon, e2]
        simpa using this
theorem e_freeze_mcell {K : Act → World → Prop} (b j r : Nat) {bx : Bx} {y : Rw} {is : List IV} (hb : lk b B = some bx) (hj : bx.cs[j]? = some (.own r)) (hy : lk r R = some y) (hf : y.fz = false) (his : bx.cs.set j (.part (.one (.map y.n y.ds))) = is) (h : E cx T ((b, ⟨bx.ty, is⟩) :: B) ((r, ⟨y.ty, y.k, y.n, y.ds, true⟩) :: R) K) (hty : Nat.blt y.ty 1000000 = false := by rfl) : E cx T B R K := fun M V a w hr => by
  have h2 := hr.freeze r hy hf
  obtain ⟨_, cs, a2, a3⟩ := h2.heap.box b bx hb
  refine h M V a w (h2.set hb a2 (fun _ _ => rfl) rfl rfl rfl rfl ⟨by rw [← his]; simp [a3.1], fun i z u hz hu => ?_⟩)
  rw [← his, List.getElem?_set] at hz
  split at hz
  · rename_i hij
    subst hij
    split at hz
    · obtain rfl := Option.some.inj hz
      have h3 := h2.heap.row r _ (lk_cons_eq _ _ _)
      rw [if_pos rfl, datOf_map (x := ⟨y.ty, y.k, y.n, y.ds, true⟩) hty] at h3
      have h4 := a3.2 j _ u hj hu
      have h5 : u = V r := h4.1
      refine ⟨?_, h4.2⟩
      rw [h5]
      exact h3
    · cases hz
  · exact a3.2 i z u hz hu
end
end Go.Proofs.YtekeanikgcpijaaDoor
namespace Go.Proofs.YtekeanikgcpijaaDoor
open Go.RowKit
section
variable {P : Program} {cx : Cx} {T : TL} {B : BL} {R : RL} {ops : Array Oper} {Q : Exit → Act → World → Prop} {deps : List (List Nat)}
def AnyE (P : Program) (cx : Cx) (T : TL) (B : BL) (R : RL) (ops : Array Oper) (Q : Exit → Act → World → Prop) (fuel : Nat) (L : List Bool) : List Nat → Prop
  | [] => True
  | i :: is => E cx T B R (wpOp P ops Q i (wpAny P .any ops Q fuel (L.set i true).toArray)) ∧ AnyE P cx T B R ops Q fuel L is
theorem AnyE.get {fuel : Nat} {L : List Bool} : ∀ {is : List Nat} (_ : AnyE P cx T B R ops Q fuel L is) {i : Nat}, i ∈ is → E cx T B R (wpOp P ops Q i (wpAny P .any ops Q fuel (L.set i true).toArray))
  | j :: is, h, i, hi => by
    rcases List.mem_cons.1 hi with rfl | hi
    · exact h.1
    · exact AnyE.get h.2 hi
  | [], _, _, hi => by cases hi
end
end Go.Proofs.YtekeanikgcpijaaDoor
namespace Go.Proofs.YtekeanikgcpijaaDoor
open Go.RowKit
def pickT (L : List Bool) : List (Nat × Nat × IV) → TL
  | [] => []
  | (i, s, y) :: es => bif L.getD i false then (s, y) :: pickT L es else pickT L es
def pickS (L : List Bool) : List Nat → List (Nat × Nat × Bx) → BL
  | _, [] => []
  | sn, (i, s, y) :: es => bif L.getD i false && !(sn.any fun c => Nat.beq c s) then (s, y) :: pickS L (s :: sn) es else pickS L sn es
def pickB (L : List Bool) (es : List (Nat × Nat × Bx)) : BL := pickS L [] es
section
variable {P : Program} {cx : Cx} {T0 : TL} {B0 : BL} {R : RL} {ops : Array Oper} {Q : Exit → Act → World → Prop} {deps : List (List Nat)} {es : List (Nat × Nat × IV)} {bs : List (Nat × Nat × Bx)}
def AllSteps (P : Program) (cx : Cx) (T0 : TL) (B0 : BL) (R : RL) (ops : Array Oper) (Q : Exit → Act → World → Prop) (es : List (Nat × Nat × IV)) (bs : List (Nat × Nat × Bx)) : List (List Bool × Nat) → Prop
  | [] => True
  | (L, i) :: r => (∀ K, E cx (T0 ++ pickT (L.set i true) es) (pickB (L.set i true) bs ++ B0) R K → E cx (T0 ++ pickT L es) (pickB L bs ++ B0) R (wpOp P ops Q i K)) ∧ AllSteps P cx T0 B0 R ops Q es bs r
theorem AllSteps.get : ∀ {st : List (List Bool × Nat)} (_ : AllSteps P cx T0 B0 R ops Q es bs st) {L : List Bool} {i : Nat}, (L, i) ∈ st → ∀ K, E cx (T0 ++ pickT (L.set i true) es) (pickB (L.set i true) bs ++ B0) R K → E cx (T0 ++ pickT L es) (pickB L bs ++ B0) R (wpOp P ops Q i K)
  | (L', j) :: r, h, L, i, hm => by
    rcases List.mem_cons.1 hm with e | hm
    · injection e with e1 e2
      subst e1 e2
      exact h.1
    · exact AllSteps.get h.2 hm
  | [], _, _, _, hm => by cases hm
theorem AnyE.of {T : TL} {B : BL} {fuel : Nat} {L : List Bool} : ∀ {is : List Nat}, (∀ i ∈ is, E cx T B R (wpOp P ops Q i (wpAny P .any ops Q fuel (L.set i true).toArray))) → AnyE P cx T B R ops Q fuel L is
  | [], _ => trivial
  | i :: is, h => ⟨h i List.mem_cons_self, AnyE.of fun j hj => h j (List.mem_cons_of_mem _ hj)⟩
end
end Go.Proofs.YtekeanikgcpijaaDoor
namespace Go.Proofs.YtekeanikgcpijaaDoor
open Go.RowKit
section
variable {P : Program}
variable {cx : Cx} {T : TL} {B : BL} {R : RL} {M : Nat → Nat} {V : Nat → Value} {o : Oper}
theorem kn_imp {x : Operand} {y z : IV} (h : Kn T x y) (hi : Imp y z) : Kn T x z := fun w D M V a hT => hi w D M V _ (h w D M V a hT)
theorem s_faddr_refx {x : Operand} {t : TypeId} {f off : Nat} {ds es : List Dat} (ho : o.op = .fieldAddr t x f) (hx : Kn T x (.ref ds)) (h : foff P t f = some off) (he : ds.drop off = es) : LStep P cx B R o T (.ref es) := he ▸ s_faddr_ref ho hx h
theorem s_iaddr_refx {x i : Operand} {t : TypeId} {k : Nat} {ds es : List Dat} {kk : IntKind} {z : Int} (ho : o.op = .indexAddr t x i) (hx : Kn T x (.ref ds)) (hi : Kn T i (.is (.int kk z))) (hz : 0 ≤ z ∧ z < (P.arrayLen t : Int)) (ht : P.underlying t = some (.array (P.arrayLen t) (P.elem t))) (hs : sizeT P (P.elem t) = some k) (he : ds.drop (z.toNat * k) = es) :
    LStep P cx B R o T (.ref es) := he ▸ s_iaddr_ref ho hx hi hz ht hs
variable {α : Type} {kf : α → Value} [DecidableEq α]
theorem s_dlookx {x i : Operand} {t kt et : TypeId} {n : Nat} {ps : List (α × Dat)} {z : Value} (c : α) (m : Option Dat) (hm : mget c ps = m) (ho : o.op = .lookup t x i true) (hx : Kn T x (.part (.one (.map n (mds kf ps))))) (hi : Kn T i (.is (kf c))) (K : KeyF P kt kf) (ht : P.underlying t = some (.map kt et)) (hz : zeroV P et = some z) :
    LStep P cx B R o T (.tup [.one (m.getD (.cell z)), .one (.cell (.bool m.isSome))]) := hm ▸ s_dlook ho hx hi K ht hz
theorem s_dlook1x {x i : Operand} {t kt et : TypeId} {n : Nat} {ps : List (α × Dat)} {z : Value} {d : Dat} (c : α) (hm : (mget c ps).getD (.cell z) = d) (ho : o.op = .lookup t x i false) (hx : Kn T x (.part (.one (.map n (mds kf ps))))) (hi : Kn T i (.is (kf c))) (K : KeyF P kt kf) (ht : P.underlying t = some (.map kt et)) (hz : zeroV P et = some z) :
    LStep P cx B R o T (.part (.one d)) := hm ▸ s_dlook1 ho hx hi K ht hz
end
def pickA {α : Type} (L : List Bool) : List Nat → List (Nat × Nat × α) → List (Nat × α)
  | _, [] => []
  | sn, (i, s, y) :: es => bif L.getD i false && !(sn.any fun c => Nat.beq c s) then (s, y) :: pickA L (s :: sn) es else pickA L sn es
section
variable {P : Program} {cx : Cx} {T0 : TL} {B0 : BL} {R0 : RL} {ops : Array Oper} {Q : Exit → Act → World → Prop} {deps : List (List Nat)} {es : List (Nat × Nat × IV)} {bs : List (Nat × Nat × Bx)} {rs : List (Nat × Nat × Rw)}
def AllStepsR (P : Program) (cx : Cx) (T0 : TL) (B0 : BL) (R0 : RL) (ops : Array Oper) (Q : Exit → Act → World → Prop) (es : List (Nat × Nat × IV)) (bs : List (Nat × Nat × Bx)) (rs : List (Nat × Nat × Rw)) : List (List Bool × Nat) → Prop
  | [] => True
  | (L, i) :: r => (∀ K, E cx (T0 ++ pickA (L.set i true) [] es) (pickA (L.set i true) [] bs ++ B0) (pickA (L.set i true) [] rs ++ R0) K → E cx (T0 ++ pickA L [] es) (pickA L [] bs ++ B0) (pickA L [] rs ++ R0) (wpOp P ops Q i K)) ∧ AllStepsR P cx T0 B0 R0 ops Q es bs rs r
theorem AllStepsR.get : ∀ {st : List (List Bool × Nat)} (_ : AllStepsR P cx T0 B0 R0 ops Q es bs rs st) {L : List Bool} {i : Nat}, (L, i) ∈ st → ∀ K, E cx (T0 ++ pickA (L.set i true) [] es) (pickA (L.set i true) [] bs ++ B0) (pickA (L.set i true) [] rs ++ R0) K → E cx (T0 ++ pickA L [] es) (pickA L [] bs ++ B0) (pickA L [] rs ++ R0) (wpOp P ops Q i K)
  | (L', j) :: r, h, L, i, hm => by
    rcases List.mem_cons.1 hm with e | hm
    · injection e with e1 e2
      subst e1 e2
      exact h.1
    · exact AllStepsR.get h.2 hm
  | [], _, _, _, hm => by cases hm
end
end Go.Proofs.YtekeanikgcpijaaDoor
namespace Go.Proofs.YtekeanikgcpijaaDoor
open Go.RowKit
inductive Alike3 (P : Program) (t : TypeId) : Value → Value → Prop where
  | int (k k' : IntKind) (a b : Int) (h : P.underlying t = some (.int k')) : Alike3 P t (.int k a) (.int k b)
  | str (a b : List UInt8) (h : P.underlying t = some .string) : Alike3 P t (.string (str a)) (.string (str b))
  | bool (a b : Bool) (h : P.underlying t = some .bool) : Alike3 P t (.bool a) (.bool b)
def Flat3 (P : Program) : Nat → List Field → List Value → List Value → Prop
  | _, [], [], [] => True
  | i, f :: fs, a :: aa, b :: bs => f.offset = i ∧ f.name ≠ "_" ∧ Alike3 P f.type a b ∧ Flat3 P (i + 1) fs aa bs
  | _, _, _, _ => False
theorem run_part_one3 {P : Program} {t : TypeId} {xs : Array Value} {i : Nat} {v : Value} (w : World) (ht : (P.underlying t = some .string ∨ P.underlying t = some .bool) ∨ ∃ k, P.underlying t = some (.int k)) (h : xs[i]? = some v) : (part t xs i).run P w = .ok v w := by
  rcases ht with (hu | hu) | ⟨k, hu⟩ <;> simp [part, isAgg, run_underlying hu, h]
theorem run_equal_alike3 {P : Program} {t : TypeId} {a b : Value} (d : Nat) (w : World) (h : Alike3 P t a b) : ∃ x, (Op.equalIn (d + 1) t a b).run P w = .ok x w ∧ (x = true ↔ a = b) := by
  cases h with
  | int k k' a b hu => exact ⟨_, run_equalIn_int w d t k k' a b hu, by simp⟩
  | bool a b hu => exact ⟨_, run_equalIn_bool' w d t a b hu, by simp⟩
  | str a b hu => exact ⟨_, run_equalIn_string w d t _ _ hu, by rw [str_toList, str_toList, beq_iff_eq]; constructor <;> intro h <;> first | (rw [h]) | (injection h with h; have := congrArg ByteArray.toList h; rwa [str_toList, str_toList] at this)⟩
theorem Alike3.plain {P : Program} {t : TypeId} {a b : Value} (h : Alike3 P t a b) : (P.underlying t = some .string ∨ P.underlying t = some .bool) ∨ ∃ k, P.underlying t = some (.int k) := by
  cases h with
  | int k k' a b hu => exact .inr ⟨k', hu⟩
  | str a b hu => exact .inl (.inl hu)
  | bool a b hu => exact .inl (.inr hu)
theorem run_eqFields_flat3 {P : Program} (d : Nat) (w : World) (xs ys : List Value) : ∀ (fs : List Field) (i : Nat) (aa bs : List Value), Flat3 P i fs aa bs → xs.drop i = aa → ys.drop i = bs →
    ∃ x, (Op.eqFields (d + 1) xs.toArray ys.toArray fs).run P w = .ok x w ∧ (x = true ↔ aa = bs)
  | [], i, [], [], _, _, _ => ⟨true, by simp [Op.eqFields], by simp⟩
  | f :: fs, i, a :: aa, b :: bs, h, hx, hy => by
    obtain ⟨h1, h2, h3, h4⟩ := h
    have hx1 : xs[i]? = some a := by rw [← Nat.add_zero i, ← List.getElem?_drop, hx]; rfl
    have hy1 : ys[i]? = some b := by rw [← Nat.add_zero i, ← List.getElem?_drop, hy]; rfl
    have hx2 : xs.drop (i + 1) = aa := by rw [← List.drop_drop, hx]; rfl
    have hy2 : ys.drop (i + 1) = bs := by rw [← List.drop_drop, hy]; rfl
    obtain ⟨x, e1, e2⟩ := run_equal_alike3 d w h3
    obtain ⟨y, e3, e4⟩ := run_eqFields_flat3 d w xs ys fs (i + 1) aa bs h4 hx2 hy2
    subst h1
    simp only [Op.eqFields, if_pos h2, Sem.run_bind, run_part_one3 (P := P) (xs := xs.toArray) w h3.plain (by simpa using hx1), run_part_one3 (P := P) (xs := ys.toArray) w h3.plain (by simpa using hy1), e1, Result.andThen_ok]
    cases x
    · refine ⟨false, by simp, ?_⟩
      simp only [Bool.false_eq_true, false_iff, List.cons.injEq, not_and]
      intro h
      exact absurd (e2.2 h) (by decide)
    · refine ⟨y, by simpa using e3, ?_⟩
      rw [e4, List.cons.injEq]
      exact ⟨fun h => ⟨e2.1 rfl, h⟩, fun h => h.2⟩
  | [], _, _ :: _, _, h, _, _ => h.elim
  | [], _, [], _ :: _, h, _, _ => h.elim
  | _ :: _, _, [], _, h, _, _ => h.elim
  | _ :: _, _, _ :: _, [], h, _, _ => h.elim
def flatB3 (P : Program) : Nat → List Field → List Nat → Bool
  | _, [], [] => true
  | i, f :: fs, k :: ks => Nat.beq f.offset i && !(f.name == "_") && (match P.underlying f.type with | some .string => Nat.beq k 1 | some (.int _) => Nat.beq k 0 | some .bool => Nat.beq k 2 | _ => false) && flatB3 P (i + 1) fs ks
  | _, _, _ => false
inductive KindsOf3 : List Nat → List Value → List Value → Prop where
  | nil : KindsOf3 [] [] []
  | str (a b : List UInt8) {ks : List Nat} {aa bs : List Value} (h : KindsOf3 ks aa bs) : KindsOf3 (1 :: ks) (.string (str a) :: aa) (.string (str b) :: bs)
  | int (k : IntKind) (a b : Int) {ks : List Nat} {aa bs : List Value} (h : KindsOf3 ks aa bs) : KindsOf3 (0 :: ks) (.int k a :: aa) (.int k b :: bs)
  | bool (a b : Bool) {ks : List Nat} {aa bs : List Value} (h : KindsOf3 ks aa bs) : KindsOf3 (2 :: ks) (.bool a :: aa) (.bool b :: bs)
theorem flat_of3 {P : Program} : ∀ {fs : List Field} {i : Nat} {ks : List Nat} {aa bs : List Value}, flatB3 P i fs ks = true → KindsOf3 ks aa bs → Flat3 P i fs aa bs
  | [], _, _, _, _, _, .nil => trivial
  | f :: fs, i, _, _, _, h, .str a b hk => by
    simp only [flatB3, Bool.and_eq_true] at h
    obtain ⟨⟨⟨h1, h2⟩, h3⟩, h4⟩ := h
    refine ⟨Nat.eq_of_beq_eq_true h1, fun e => by rw [e] at h2; exact absurd h2 (by decide), ?_, flat_of3 h4 hk⟩
    cases hu : P.underlying f.type with
    | none => rw [hu] at h3; cases h3
    | some d => cases d <;> rw [hu] at h3 <;> first | exact .str a b hu | (cases h3; done) | exact absurd h3 (by decide)
  | f :: fs, i, _, _, _, h, .int k a b hk => by
    simp only [flatB3, Bool.and_eq_true] at h
    obtain ⟨⟨⟨h1, h2⟩, h3⟩, h4⟩ := h
    refine ⟨Nat.eq_of_beq_eq_true h1, fun e => by rw [e] at h2; exact absurd h2 (by decide), ?_, flat_of3 h4 hk⟩
    cases hu : P.underlying f.type with
    | none => rw [hu] at h3; cases h3
    | some d => cases d <;> rw [hu] at h3 <;> first | exact .int k _ a b hu | (cases h3; done) | exact absurd h3 (by decide)
  | f :: fs, i, _, _, _, h, .bool a b hk => by
    simp only [flatB3, Bool.and_eq_true] at h
    obtain ⟨⟨⟨h1, h2⟩, h3⟩, h4⟩ := h
    refine ⟨Nat.eq_of_beq_eq_true h1, fun e => by rw [e] at h2; exact absurd h2 (by decide), ?_, flat_of3 h4 hk⟩
    cases hu : P.underlying f.type with
    | none => rw [hu] at h3; cases h3
    | some d => cases d <;> rw [hu] at h3 <;> first | exact .bool a b hu | (cases h3; done) | exact absurd h3 (by decide)
  | [], _, _, _, _, h, .str _ _ _ => by cases h
  | [], _, _, _, _, h, .int _ _ _ _ => by cases h
  | [], _, _, _, _, h, .bool _ _ _ => by cases h
  | _ :: _, _, _, _, _, h, .nil => by cases h
section
variable {P : Program} {cx : Cx} {T : TL} {B : BL} {R : RL} {o : Oper}
theorem v_stneq3 {t : TypeId} {cs ds : List Value} (ht : P.underlying t = some (.struct (P.fieldsOf t))) (hp : P.stoodInHeld t = false) (hm : P.eqGuardType P.depth t = false) (hf : Flat3 P 0 (P.fieldsOf t).toList cs ds) : BinV P .neq t (.agg cs.toArray) (.agg ds.toArray) (.bool (!cdec (cs = ds))) := fun x y w => by
  obtain ⟨z, h1, h2⟩ := run_eqFields_flat3 9998 w cs ds _ 0 cs ds hf rfl rfl
  rw [Sem.run_bind, run_eqGuard_agg w .neq t x y _ _ hm, Result.andThen_ok, run_neq_struct, run_equalIn_agg w 9999 t _ _ ht hp, h1, Result.andThen_ok, cdec_eq h2]
theorem s_ptr_dat {x : Operand} {t t' t2 : TypeId} {ds : List Dat} (ho : o.op = .binOp .eql t x (.const (.pointer none)) t') (hx : Kn T x (.part (.one (.ptr t2 ds)))) (hp : P.underlying t = some (.pointer (P.pointee t))) : LStep P cx B R o T (.is (.bool false)) := s_binw ho fun M V w a hk => by
  have h0 : Lies w (Dc cx B R M V w) (.ptr t2 ds) (a.eval x) := hk x _ (by simp [ho, Op.operands]) hx
  obtain ⟨b, h1⟩ : ∃ b, a.eval x = .pointer (some ⟨b, 0, none⟩) := by
    generalize a.eval x = v at h0
    cases h0 with
    | ptr b => exact ⟨b, rfl⟩
  rw [h1]
  exact binv_nil (some _) hp
end
end Go.Proofs.YtekeanikgcpijaaDoor
namespace Go.Proofs.YtekeanikgcpijaaDoor
open Go.RowKit
theorem str_index (l : List UInt8) (i : Nat) (h : i < l.length) (u : World) : (Instr.index 9 (.string (str l)) (.int .i64 (i : Int))).run Tryd.prog u = .ok (.int .u8 (l[i].toNat : Int)) u := by
  rw [run_index_string (P := Tryd.prog) u 9 (str l) .i64 i Tryd.underlying9, dif_pos ⟨by omega, by rw [strSize]; omega⟩]
  rfl
theorem str_from (l : List UInt8) (k : Nat) (h : k ≤ l.length) (u : World) : (Instr.slice 9 (.string (str l)) (some (.int .i64 (k : Int))) none none).run Tryd.prog u = .ok (.string (str (l.drop k))) u := by
  rw [run_slice_string_from_if (P := Tryd.prog) u 9 (str l) .i64 k Tryd.underlying9, if_pos ⟨by omega, by rw [strSize]; omega⟩, str_extract, strSize, Int.toNat_natCast, List.take_of_length_le (by rw [List.length_drop]; omega)]
theorem str_upto (l : List UInt8) (k : Nat) (h : k ≤ l.length) (u : World) : (Instr.slice 9 (.string (str l)) none (some (.int .i64 (k : Int))) none).run Tryd.prog u = .ok (.string (str (l.take k))) u := by
  rw [run_slice_string_to_if (P := Tryd.prog) u 9 (str l) .i64 k Tryd.underlying9, if_pos ⟨by omega, by rw [strSize]; omega⟩, str_extract, Int.toNat_natCast, List.drop_zero, Nat.sub_zero]
theorem str_mid (l : List UInt8) (j k : Nat) (hj : j ≤ k) (h : k ≤ l.length) (u : World) : (Instr.slice 9 (.string (str l)) (some (.int .i64 (j : Int))) (some (.int .i64 (k : Int))) none).run Tryd.prog u = .ok (.string (str ((l.drop j).take (k - j)))) u := by
  rw [run_slice_string (P := Tryd.prog) u 9 (str l) .i64 .i64 j k Tryd.underlying9 (by omega) (by omega) (by rw [strSize]; omega), str_extract, Int.toNat_natCast, Int.toNat_natCast]
end Go.Proofs.YtekeanikgcpijaaDoor
namespace Go.Proofs.YtekeanikgcpijaaDoor
open Go.RowKit
theorem infoByteC : (Tryd.prog.info? 5).map (fun i => (i.zero, i.size, i.bytes)) = some (some (.int .u8 0), 1, 1) := by kernel_rfl
theorem cellByteC : Tryd.prog.cellsOf 5 = 1 := by kernel_rfl
set_option maxRecDepth 100000 in
set_option maxHeartbeats 2000000 in
theorem cloneIn_any (w : World) (l : List UInt8) (hl : l.length ≤ 140737488351232) :
    Calls Tryd.prog 18 #[.string (str l)] w fun e w' => e = .returned (.string (str l)) ∧ Below w.heap.size w w' := by
  by_cases h0 : l = []
  · subst h0
    have hz : (str []).size = 0 := rfl
    go_enter Tryd.func18, Tryd.ntmps18
    go_wp2
    go_ret
    exact ⟨rfl, Below.refl _ _⟩
  · obtain ⟨i, hi, hz0, hz1, hz2⟩ := info_parts infoByteC
    have hpos : 0 < l.length := List.length_pos_iff.2 h0
    have hz : (str l).size = l.length := strSize l
    obtain ⟨M, hM⟩ : ∃ M, M = madeCells (Value.int .u8 0).cells (((l.length : Nat) : Int).toNat * i.size) := ⟨_, rfl⟩
    have hMs : M.size = l.length := by rw [hM, size_madeCells, hz1]; simp
    have hmk : ∀ W : World, (Instr.makeSlice 80 (.int .i64 (l.length : Int)) (.int .i64 (l.length : Int))).run Tryd.prog W = .ok (.slice (some ⟨W.heap.size, 0, none⟩) l.length l.length) (W.alloc (.cells M 5)) := fun W => by
      have h := run_make (P := Tryd.prog) W 80 5 i (.int .u8 0) Tryd.underlying80 hi hz0 .i64 .i64 (l.length : Int) (l.length : Int) (by omega) (by omega) (by rw [hz2]; omega) (by omega)
      rw [← hM] at h
      simpa using h
    clear hM
    have hcp := Lib.run_copy_row_string (P := Tryd.prog) (w.alloc (.cells M 5)) 80 9 3 5 w.heap.size 0 l.length l.length (str l) M 5 Tryd.underlying80 (by rw [hi]; simp [hz1]) (heap_alloc_new w _) (by rw [hz]; exact Nat.le_refl _) (by rw [hz]; omega)
    rw [hz] at hcp
    obtain ⟨Y, hY⟩ : ∃ Y, Y = (M.toList.take 0 ++ Lib.byteCells (str l).data.toList ++ M.toList.drop (0 + l.length)).toArray := ⟨_, rfl⟩
    rw [← hY] at hcp
    have hYl : Y = (l.map bv).toArray := by
      rw [hY, List.take_zero, List.nil_append, List.drop_of_length_le (by rw [Array.length_toList]; omega), List.append_nil]
      rfl
    clear hY
    obtain ⟨V, hV⟩ : ∃ V, V = (w.alloc (.cells M 5)).setRow w.heap.size Y := ⟨_, rfl⟩
    rw [← hV] at hcp
    have hk : Blk V w.heap.size 5 (l.map bv) := by
      unfold Blk
      rw [hV, ← hYl]
      exact setRow_heap _ _ M _ 5 (0, 0) (heap_alloc_new w _)
    have hus : (Builtin.unsafeString_ #[81, 3] 9 #[.pointer (some ⟨w.heap.size, 0, none⟩), .int .i64 (l.length : Int)]).run Tryd.prog V = .ok (.string (str l)) (V.freeze ⟨w.heap.size, 0, none⟩ l.length) :=
      Lib.run_unsafeString_row V _ _ _ 5 Tryd.underlying81 cellByteC w.heap.size (l.map bv).length (by unfold World.shape?; rw [hk]; simp) l h0 (by simp) (by omega) fun j x hx => by
        rw [Addr.add_lit, Nat.zero_add, hk.cell, List.getElem?_map, hx]
        rfl
    have hb : Below w.heap.size w V := by
      rw [hV]
      exact ((Below.refl _ w).alloc (Nat.le_refl _) _).trans ⟨rfl, rfl, rfl, by simp, fun k hk => setRow_other _ _ _ _ (by omega)⟩
    have HB := Lib.hid (Lib.below_freeze hb (p := ⟨w.heap.size, 0, none⟩) (Nat.le_refl _) l.length)
    clear hb hk hV hYl hi hz0 hz1 hz2 hMs h0
    have hne : ¬ (l.length : Int) = 0 := by omega
    have hne2 : ((l.length : Int) == 0) = false := by simpa using hne
    go_enter Tryd.func18, Tryd.ntmps18
    go_wp2
    go_ret
    exact ⟨rfl, HB.out⟩
set_option maxRecDepth 100000 in
theorem clone_any (w : World) (l : List UInt8) (hl : l.length ≤ 140737488351232) :
    Calls Tryd.prog 12 #[.string (str l)] w fun e w' => e = .returned (.string (str l)) ∧ Below w.heap.size w w' := by
  go_enter Tryd.func12, Tryd.ntmps12
  go_wp2_with fail
  refine (cloneIn_any w l hl).mono ?_
  rintro e w1 ⟨rfl, hb⟩
  go_wp2_with fail
  go_ret
  exact ⟨rfl, hb⟩
end Go.Proofs.YtekeanikgcpijaaDoor
