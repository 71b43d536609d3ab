/- Part 11 of what the last text of this claim is proved by: walks over the program, and the math behind them. Conditions: as each theorem says. -/
import Derived.Test.YtekeanikgcpijaaDoorSO10
import Derived.Laws.Entries
import Derived.Laws.Small
import Derived.ChangeMaps5
namespace Go.Proofs.YtekeanikgcpijaaDoor
open Go.RowKit
def off (d : Nat) : TL → TL
  | [] => []
  | (j, x) :: l => bif Nat.beq j d then off d l else (j, x) :: off d l
theorem lk_off {d t : Nat} {x : IV} : ∀ {T : TL}, lk t (off d T) = some x → t ≠ d ∧ lk t T = some x
  | [], h => by cases h
  | (j, y) :: l, h => by
    unfold off at h
    cases e : Nat.beq j d with
    | true =>
      rw [e] at h
      obtain ⟨h1, h2⟩ := lk_off (T := l) h
      have : j = d := Nat.eq_of_beq_eq_true e
      exact ⟨h1, by rw [lk_cons_ne _ _ (by omega)]; exact h2⟩
    | false =>
      rw [e] at h
      have hjd : j ≠ d := fun h => by subst h; simp at e
      rcases lk_cons h with ⟨rfl, rfl⟩ | ⟨hne, h⟩
      · exact ⟨hjd, lk_cons_eq _ _ _⟩
      · obtain ⟨h1, h2⟩ := lk_off (T := l) h
        exact ⟨h1, by rw [lk_cons_ne _ _ hne]; exact h2⟩
section
variable {P : Program} {cx : Cx} {T T' T2 : TL} {B : BL} {R : RL}
theorem e_draw_float2 (n : Nat) {id : Nat} {o0 on : Oper} {l : List Oper} {d : Nat} {y0 : IV} {Q : Exit → Act → World → Prop} {ys : List IV} (hm : P.follows .mixedOrders = true) (hB : float2B (o0 :: l).toArray n = true) (hd : o0.dst = some d) (hon : (o0 :: l).toArray[n]? = some on)
    (hW : Walk P cx B R (patched (o0 :: l).toArray n) ((o0 :: l).take n) T (y0 :: ys) T') (hT : off d T' = T2) (hA : E cx T' B R (wpList P (o0 :: l).toArray Q ((o0 :: l).drop n))) (hB2 : E cx T2 B R (wpList P (o0 :: l).toArray Q (on :: o0 :: (o0 :: l).drop (n + 1)))) :
    E cx T B R ((Code.region id (o0 :: l).toArray true).wp P Q) := fun M V a w hr => by
  have h0 : Ct cx T B R M V a w.drew := Ct.stay w _ (Below.refl _ _).drew ⟨hr.heap, hr.tmp⟩
  have hks := kinds_stay (cx := cx) (B := B) (R := R) (M := M) (V := V) (y0 :: ys)
  refine wp_region_float2 n (Ct cx T B R M V a) Rb (kindOf cx B R M V y0) (ys.map (kindOf cx B R M V)) (fun G a' => a'.tmps.size = cx.n ∧ a'.defers = [] ∧ Gt cx B R M V (Ct cx T B R M V a) T' G a') (fun G a' => a'.tmps.size = cx.n ∧ a'.defers = [] ∧ Gt cx B R M V (Ct cx T B R M V a) T2 G a') (o0 := o0) (on := on) hm hB rfl hon Ct.stay hks.1 hks.2 h0 ?_ ?_ ?_ ?_ ?_
  · rintro G G' a' hG ⟨h1, h2, h3⟩
    refine ⟨h1, h2, fun t x hx => ?_⟩
    rcases h3 t x hx with h | ⟨h4, F, h5, h6⟩
    · exact .inl h
    · exact .inr ⟨h4, F, hG _ h5, h6⟩
  · rintro G a' ⟨hn, hdf, hG⟩ w' hc hF
    exact hA M V a' w' (hG.rel (fun w h => h.1) hn hdf hc hF)
  · rintro G a' v _ ⟨hn, hdf, hG⟩
    refine ⟨by simpa [Act.put, hd] using hn, by rw [hd] at hdf; exact hdf, fun t x hx => ?_⟩
    rw [← hT] at hx
    obtain ⟨hne, hx⟩ := lk_off hx
    have hget : (a'.put o0.dst v).tmps.getD t undef = a'.tmps.getD t undef := by
      rw [hd]
      simp only [Act.put, Array.getD_eq_getD_getElem?, Array.getElem?_setIfInBounds]
      rw [if_neg (Ne.symm hne)]
    rcases hG t x hx with h | ⟨h4, F, h5, h6⟩
    · rw [hget] at h
      exact .inl h
    · rw [hget] at h6
      refine .inr ⟨h4, F, ?_, h6⟩
      rcases List.mem_cons.1 h5 with e | h5
      · injection e with e _
        rw [hd] at e
        injection e with e
        exact absurd e hne
      · exact h5
  · rintro G a' ⟨hn, hdf, hG⟩ w' hc hF
    exact hB2 M V a' w' (hG.rel (fun w h => h.1) hn hdf hc hF)
  · exact hW.wpT (fun w h => h.1) ⟨_, h0⟩ hr.size hr.defers (fun t x hx => .inl fun w h => h.2 t x hx) fun G' a' hn hdf hG => ⟨hn, hdf, hG⟩
end
end Go.Proofs.YtekeanikgcpijaaDoor
namespace Go.Proofs.YtekeanikgcpijaaDoor
open Go.RowKit
section
variable {P : Program} {cx : Cx} {T : TL} {B : BL} {R : RL} {o : Oper}
def fieldT (P : Program) (t : TypeId) (f : Nat) : Option (TypeId × Nat) :=
  match P.underlying t with
  | some (.struct fs) => (fs[f]?).map fun g => (g.type, g.offset)
  | _ => none
theorem s_field {x : Operand} {t fty : TypeId} {f off : Nat} {cs : List Value} {v : Value} (ho : o.op = .field t x f) (hx : Kn T x (.part (.many (cs.map .cell)))) (hf : fieldT P t f = some (fty, off)) (h1 : P.underlying fty = some .string ∨ ∃ k, P.underlying fty = some (.int k)) (hv : cs[off]? = some v) : LStep P cx B R o T (.is v) := LStep.same fun M V w a _ hk => by
  have h2 := many_cells (hk x _ (by simp [ho, Op.operands]) hx)
  unfold fieldT at hf
  cases hu : P.underlying t with
  | none => rw [hu] at hf; cases hf
  | some d =>
    cases d <;> rw [hu] at hf <;> try (cases hf; done)
    rename_i fs
    obtain ⟨g, hg, hg2⟩ := Option.map_eq_some_iff.1 hf
    injection hg2 with e1 e2
    subst e1 e2
    have h3 := run_part_one (P := P) (xs := cs.toArray) w h1 (by simpa using hv)
    refine ⟨v, ?_, .cell v⟩
    unfold execOp
    simp only [ho, h2]
    simp [Instr.field, run_underlying hu, hg, asAgg, h3]
end
end Go.Proofs.YtekeanikgcpijaaDoor
namespace Go.Proofs.YtekeanikgcpijaaDoor
open Go.RowKit
section
variable {P : Program} {cx : Cx} {T : TL} {B : BL} {R : RL}
theorem wp_then {o : Oper} {a : Act} {w : World} {K : Act → World → Prop} {Q : Exit → Act → World → Prop} (h : o.wp P a w K (Exit.then K Q)) : o.wp P a w K Q := by
  unfold Oper.wp at *
  generalize (execOp a.eval o).run P w = r at *
  cases r with
  | ok n w' =>
    cases n <;> simp only [Oper.upon] at h ⊢ <;> first | exact h | exact Calls.mono h (fun e w'' he => by cases e <;> exact he) | exact Rows.mono h (fun _ _ he => he)
  | halt x w' => cases x <;> simp only [Oper.upon] at h ⊢ <;> exact h
def coinB (ops : Array Oper) : Bool :=
  decide (ops.size = 4) && decide (Region.ready .any ops #[false, false, false, false] = [0]) && decide (Region.ready .any ops #[true, false, false, false] = [1, 2]) && decide (Region.ready .any ops #[true, true, false, false] = [2]) && decide (Region.ready .any ops #[true, false, true, false] = [1]) && decide (Region.ready .any ops #[true, true, true, false] = [3]) && decide (Region.ready .any ops #[true, true, true, true] = [])
theorem wp_region_coin {id : Nat} {Q : Exit → Act → World → Prop} {a : Act} {w : World} {o0 o1 o2 o3 : Oper} (hm : P.follows .mixedOrders = true) (hB : coinB #[o0, o1, o2, o3] = true)
    (h : wpOp P #[o0, o1, o2, o3] Q 0 (fun a w => wpOp P #[o0, o1, o2, o3] Q 1 (wpOp P #[o0, o1, o2, o3] Q 2 (wpOp P #[o0, o1, o2, o3] Q 3 (Q .normal))) a w ∧ wpOp P #[o0, o1, o2, o3] Q 2 (wpOp P #[o0, o1, o2, o3] Q 1 (wpOp P #[o0, o1, o2, o3] Q 3 (Q .normal))) a w) a w.drew) : (Code.region id #[o0, o1, o2, o3] true).wp P Q a w := by
  simp only [coinB, Bool.and_eq_true, decide_eq_true_eq] at hB
  obtain ⟨⟨⟨⟨⟨⟨_, r0⟩, r1⟩, r2⟩, r3⟩, r4⟩, r5⟩ := hB
  refine wp_region_any hm ?_
  have hend : ∀ a w, Q .normal a w → wpAny P .any #[o0, o1, o2, o3] Q 0 #[true, true, true, true] a w := fun a w h => ⟨r5, h⟩
  have h3 : ∀ a w, wpOp P #[o0, o1, o2, o3] Q 3 (Q .normal) a w → wpAny P .any #[o0, o1, o2, o3] Q 1 #[true, true, true, false] a w := fun a w h => ⟨fun e => (by rw [r4] at e; cases e), fun i hi => by
    rw [r4] at hi
    obtain rfl : i = 3 := by simpa using hi
    exact wpOp_mono hend h⟩
  have h2 : ∀ a w, wpOp P #[o0, o1, o2, o3] Q 2 (wpOp P #[o0, o1, o2, o3] Q 3 (Q .normal)) a w → wpAny P .any #[o0, o1, o2, o3] Q 2 #[true, true, false, false] a w := fun a w h => ⟨fun e => (by rw [r2] at e; cases e), fun i hi => by
    rw [r2] at hi
    obtain rfl : i = 2 := by simpa using hi
    exact wpOp_mono h3 h⟩
  have h1 : ∀ a w, wpOp P #[o0, o1, o2, o3] Q 1 (wpOp P #[o0, o1, o2, o3] Q 3 (Q .normal)) a w → wpAny P .any #[o0, o1, o2, o3] Q 2 #[true, false, true, false] a w := fun a w h => ⟨fun e => (by rw [r3] at e; cases e), fun i hi => by
    rw [r3] at hi
    obtain rfl : i = 1 := by simpa using hi
    exact wpOp_mono h3 h⟩
  refine ⟨fun e => (by have : Region.ready .any #[o0, o1, o2, o3] #[false, false, false, false] = [] := e; rw [r0] at this; cases this), fun i hi => ?_⟩
  have hi' : i ∈ Region.ready .any #[o0, o1, o2, o3] #[false, false, false, false] := hi
  rw [r0] at hi'
  obtain rfl : i = 0 := by simpa using hi'
  refine wpOp_mono (fun a w hk => ?_) h
  show wpAny P .any #[o0, o1, o2, o3] Q 3 #[true, false, false, false] a w
  refine ⟨fun e => (by rw [r1] at e; cases e), fun i hi => ?_⟩
  rw [r1] at hi
  rcases List.mem_cons.1 hi with rfl | hi
  · exact wpOp_mono h2 hk.1
  · obtain rfl : i = 2 := by simpa using hi
    exact wpOp_mono h1 hk.2
theorem op_of_list {ops : Array Oper} {Q : Exit → Act → World → Prop} {K : Act → World → Prop} {o : Oper} {i : Nat} {a : Act} {w : World} (hi : ops[i]? = some o) (hl : LetsOut (Exit.then K Q) → LetsOut Q) (h : wpList P ops (Exit.then K Q) [o] a w) : wpOp P ops Q i K a w := by
  unfold wpOp
  simp only [hi]
  simp only [wpList] at h
  split
  · rename_i hw
    rw [if_pos hw] at h
    exact h.imp (fun h => wp_then h) (fun h => ⟨h.1, hl h.2⟩)
  · rename_i hw
    rw [if_neg hw] at h
    exact h
theorem e_coin {id : Nat} {Q : Exit → Act → World → Prop} {o0 o1 o2 o3 : Oper} {d0 d1 ty : Nat} (b : Nat) (hm : P.follows .mixedOrders = true) (hB : coinB #[o0, o1, o2, o3] = true) (hl : ∀ K, LetsOut (Exit.then K Q) → LetsOut Q)
    (g0 : o0.guard = none) (e0 : o0.dst = some d0) (n0 : Nat.blt d0 cx.n = true) (p0 : o0.op = .alloc ty) (hz : zeroT P ty = some [.bool false])
    (g1 : o1.guard = none) (e1 : o1.dst = none) (p1 : o1.op = .store ty (.tmp d0) (.const (.bool true))) (g2 : o2.guard = none) (e2 : o2.dst = none) (p2 : o2.op = .store ty (.tmp d0) (.const (.bool false)))
    (g3 : o3.guard = none) (e3 : o3.dst = some d1) (n1 : Nat.blt d1 cx.n = true) (p3 : o3.op = .load ty (.tmp d0)) (hs : sizeT P ty = some 1) (h1 : oneT P ty = true)
    (hpn : cx.pn.all (fun c => !Nat.beq c b) = true) (hT : nobT b T = true) (hBb : nobB b B = true)
    (h : ∀ x y : Bool, E cx ((d1, .is (.bool y)) :: (d0, .box b 0) :: T) ((b, ⟨ty, [.is (.bool y)]⟩) :: (b, ⟨ty, [.is (.bool x)]⟩) :: (b, ⟨ty, [.is (.bool false)]⟩) :: B) R (Q .normal)) : E cx T B R ((Code.region id #[o0, o1, o2, o3] true).wp P Q) := fun M V a w hr => by
  refine wp_region_coin hm hB ?_
  have hr1 : Rel cx T B R M V a w.drew := ⟨hr.size, hr.defers, hr.heap.step (Below.refl _ _).drew, fun t x hx => (hr.tmp t x hx).stay (hr.heap.keeps (Below.refl _ _).drew) fun _ hg => hg.mono (Nat.le_refl _)⟩
  have kd : Kn ((d0, .box b 0) :: T) (.tmp d0) (.box b 0) := kn (show lk d0 ((d0, IV.box b 0) :: T) = _ from lk_cons_eq _ _ _)
  have key : ∀ (x y : Bool) (i j : Nat) (oi oj : Oper), #[o0, o1, o2, o3][i]? = some oi → #[o0, o1, o2, o3][j]? = some oj → oi.guard = none → oi.dst = none → oi.op = .store ty (.tmp d0) (.const (.bool x)) → oj.guard = none → oj.dst = none → oj.op = .store ty (.tmp d0) (.const (.bool y)) →
      E cx ((d0, .box b 0) :: T) ((b, ⟨ty, [.is (.bool false)]⟩) :: B) R (wpOp P #[o0, o1, o2, o3] Q i (wpOp P #[o0, o1, o2, o3] Q j (wpOp P #[o0, o1, o2, o3] Q 3 (Q .normal)))) := fun x y i j oi oj hi hj gi ei pi gj ej pj => by
    have s3 : E cx ((d0, .box b 0) :: T) ((b, ⟨ty, [.is (.bool y)]⟩) :: (b, ⟨ty, [.is (.bool x)]⟩) :: (b, ⟨ty, [.is (.bool false)]⟩) :: B) R (wpOp P #[o0, o1, o2, o3] Q 3 (Q .normal)) := fun M V a w hr => by
      refine op_of_list (o := o3) rfl (hl _) ?_
      exact e_list_op (ops := #[o0, o1, o2, o3]) (Q := Exit.then (Q .normal) Q) g3 e3 n1 (s_load1_box (y := .is (.bool y)) p3 kd (lk_cons_eq _ _ _) rfl h1) (h x y) M V a w hr
    have s2 : E cx ((d0, .box b 0) :: T) ((b, ⟨ty, [.is (.bool x)]⟩) :: (b, ⟨ty, [.is (.bool false)]⟩) :: B) R (wpOp P #[o0, o1, o2, o3] Q j (wpOp P #[o0, o1, o2, o3] Q 3 (Q .normal))) := fun M V a w hr => by
      refine op_of_list (o := oj) hj (hl _) ?_
      exact e_store1 (ops := #[o0, o1, o2, o3]) (Q := Exit.then (wpOp P #[o0, o1, o2, o3] Q 3 (Q .normal)) Q) gj ej pj kd (lk_cons_eq _ _ _) (kn rfl) rfl rfl hs rfl s3 M V a w hr
    exact fun M V a w hr => by
      refine op_of_list (o := oi) hi (hl _) ?_
      exact e_store1 (ops := #[o0, o1, o2, o3]) (Q := Exit.then (wpOp P #[o0, o1, o2, o3] Q j (wpOp P #[o0, o1, o2, o3] Q 3 (Q .normal))) Q) gi ei pi kd (lk_cons_eq _ _ _) (kn rfl) rfl rfl hs rfl s2 M V a w hr
  refine op_of_list (o := o0) rfl (hl _) ?_
  refine e_alloc (ops := #[o0, o1, o2, o3]) (Q := Exit.then _ Q) b [.is (.bool false)] g0 e0 n0 p0 hz (fun w D M V => ⟨rfl, fun j x v h1 h2 => cfit_is _ h1 h2 rfl⟩) hpn hT hBb rfl ?_ M V a w.drew hr1
  exact fun M V a w hr => ⟨key true false 1 2 o1 o2 rfl rfl g1 e1 p1 g2 e2 p2 M V a w hr, key false true 2 1 o2 o1 rfl rfl g2 e2 p2 g1 e1 p1 M V a w hr⟩
end
end Go.Proofs.YtekeanikgcpijaaDoor
namespace Go.Proofs.YtekeanikgcpijaaDoor
open Go.RowKit
section
variable {P : Program} {cx : Cx} {T : TL} {B : BL} {R : RL}
def LentBr (ρ σ : Nat → Nat) (B : BL) : BL → Prop
  | [] => True
  | (b, x) :: l => lk (ρ b) B = some ⟨x.ty, x.cs.map (·.ren ρ σ)⟩ ∧ LentBr ρ σ B l
def LentRr (σ : Nat → Nat) (R : RL) : RL → Prop
  | [] => True
  | (r, x) :: l => lk (σ r) R = some x ∧ LentRr σ R l
theorem LentBr.get {ρ σ : Nat → Nat} : ∀ {B0 : BL} (_ : LentBr ρ σ B B0) {b : Nat} {x : Bx}, lk b B0 = some x → lk (ρ b) B = some ⟨x.ty, x.cs.map (·.ren ρ σ)⟩
  | (c, y) :: l, h, b, x, hx => by
    rcases lk_cons hx with ⟨rfl, rfl⟩ | ⟨_, hx⟩
    · exact h.1
    · exact LentBr.get h.2 hx
  | [], _, _, _, hx => by cases hx
theorem LentRr.get {σ : Nat → Nat} : ∀ {R0 : RL} (_ : LentRr σ R R0) {b : Nat} {x : Rw}, lk b R0 = some x → lk (σ b) R = some x
  | (c, y) :: l, h, b, x, hx => by
    rcases lk_cons hx with ⟨rfl, rfl⟩ | ⟨_, hx⟩
    · exact h.1
    · exact LentRr.get h.2 hx
  | [], _, _, _, hx => by cases hx
theorem eg_ren {gls : List (Nat × List Value)} {f : FuncId} {xs ys : List IV} {B0 : BL} {R0 : RL} {Y Y' : IV → BL → RL → Prop} (ρ σ : Nat → Nat) (hf : EG P gls f ys B0 R0 Y) (hxs : xs = ys.map (·.ren ρ σ)) (hB : LentBr ρ σ B B0) (hR : LentRr σ R R0) (apB : Apart ρ (names B0)) (apR : Apart σ (names R0))
    (hY : ∀ y B1 R1, Y y B1 R1 → Tidy B0 R0 y B1 R1)
    (hY' : ∀ y B1 R1, Y y B1 R1 → ∃ y' B2 R2, Y' y' B2 R2 ∧ Imp (y.ren ρ σ) y' ∧ SubB (renB ρ σ B1 ++ killBL ((names R0).map σ) B) B2 ∧ SubR (renR σ R1 ++ R) R2) : EG P gls f xs B R Y' := fun w D M V vs n hh hp => by
  subst hxs
  have hL : Lent B R ρ σ B0 R0 := ⟨fun b x hx => hB.get hx, fun r x hx => hR.get hx, apB, apR⟩
  let cx : Cx := lcx w D 1 gls B R M V
  have hr : Rel cx [] B R M V { tmps := #[undef], defers := [] } w := ⟨rfl, rfl, hh.n 1, fun t x hx => (by cases hx)⟩
  refine (calls_back (d := 0) hr hL hp hf hY Nat.zero_lt_one).mono fun e w' ⟨v, y, B1, R1, V', h1, h2, h3⟩ => ?_
  obtain ⟨y', B2, R2, g1, g2, g3, g4⟩ := hY' y B1 R1 h2
  have h4 := h3.sub (T' := []) trivial g3 g4
  have hD : ∀ g, Dc cx (renB ρ σ B1 ++ killBL ((names R0).map σ) B) (renR σ R1 ++ R) M V' w' g → Dc cx B2 R2 M V' w' g := fun g hg => by
    rcases hg with hg | ⟨a1, a2, a3, a4⟩
    · exact .inl hg
    · exact .inr ⟨a1, a2, fun b x hx => by obtain ⟨z, hz, _⟩ := g3.get hx; exact a3 b z hz, fun r x hx => a4 r x (g4.get hx)⟩
  have hv := h3.tmp 0 _ (lk_cons_eq _ _ _)
  rw [getD_put _ 0 0 v (by show 0 < 1; exact Nat.zero_lt_one), if_pos rfl] at hv
  exact ⟨v, y', B2, R2, M, V', h1, g1, h4.heap.n n, (g2 _ _ _ _ _ hv).stay (Keeps.refl _ _) hD⟩
theorem kn_many (cs : List Value) : Kn T (.const (.agg cs.toArray)) (.part (.many (cs.map .cell))) := fun w D _ _ _ _ => ⟨cs, rfl, fits_cells w D cs⟩
theorem e_store_last {ops : Array Oper} {Q : Exit → Act → World → Prop} {o1 o2 : Oper} {l : List Oper} {d : Nat} {x i y : Operand} {t st : TypeId} {r k n : Nat} {ty : TypeId} {ds zs es : List Dat} {kk : IntKind} (hg1 : o1.guard = none) (hd1 : o1.dst = some d) (hn1 : Nat.blt d cx.n = true) (ho1 : o1.op = .indexAddr t x i) (hx : Kn T x (.own r)) (hr : lk r R = some ⟨ty, k, n + 1, ds ++ zs, false⟩) (hzs : zs.length = k) (hi : Kn T i (.is (.int kk (n : Int))))
    (ht : P.underlying t = some (.slice (P.elem t))) (hs : sizeT P (P.elem t) = some k) (hg2 : o2.guard = none) (hd2 : o2.dst = none) (ho2 : o2.op = .store st (.tmp d) y) (hy : Kn ((d, .junk) :: T) y (.part (.many es))) (h1 : es.all Dat.isOne = true) (hel : es.length = k) (hst : sizeT P st = some k)
    (hE : E cx ((d, .junk) :: T) B ((r, ⟨ty, k, n + 1, ds ++ es, false⟩) :: R) (wpList P ops Q l)) (hty : Nat.blt ty 1000000 = true := by rfl) : E cx T B R (wpList P ops Q (o1 :: o2 :: l)) := fun M V a w hrel => by
  have hh := hrel.heap
  have hxv : a.eval x = V r := hx w (Dc cx B R M V w) M V a fun t z _ hz => hrel.tmp t z hz
  have hiv : a.eval i = .int kk (n : Int) := (hi w (Dc cx B R M V w) M V a fun t z _ hz => hrel.tmp t z hz).is_eq
  obtain ⟨xs, hown, hfx⟩ : Gr w (Dc cx B R M V w) 0 ty k (V r) (n + 1) (ds ++ zs) := Gx.row (hh.row r _ hr) hty
  obtain ⟨hxl, hv⟩ := hown
  obtain ⟨g, cap, cur, hVr, _, hg, hcap, hmax, hcs, hcx⟩ := hv.resolve_left fun h => Nat.succ_ne_zero _ h.2
  have hob : obk (V r) = some g := by rw [hVr]; rfl
  have hdl : ds.length = n * k := by
    have := hfx.1
    rw [List.length_append, hzs, hxl, Nat.succ_mul] at this
    omega
  have hle : n * k + k ≤ cap * k := by
    rw [← Nat.succ_mul]
    exact Nat.mul_le_mul_right _ hcap
  refine wpList_plain hg1 fun K hK => ?_
  have hadd : (⟨g, 0, none⟩ : Addr).add (n * k) = ⟨g, n * k, none⟩ := by unfold Addr.add; split <;> simp_all
  have h7 := run_indexAt_slice (P := P) w t ⟨g, 0, none⟩ (n + 1) cap kk (n : Int) ht
  rw [if_pos ⟨by omega, by omega⟩, run_sizeT hs, Result.andThen_ok, Int.toNat_natCast, hadd] at h7
  have hrun : (execOp a.eval o1).run P w = .ok (.value (.pointer (some ⟨g, n * k, none⟩))) w := by
    simp [execOp, ho1, hxv, hiv, hVr, h7]
  unfold Oper.wp
  rw [hrun]
  simp only [Oper.upon, hd1]
  refine hK _ _ ?_
  have hr1 : Rel cx ((d, .junk) :: T) B R M V (a.put (some d) (.pointer (some ⟨g, n * k, none⟩))) w := hrel.put (Below.refl _ _) (blt_lt hn1) trivial
  generalize ha1 : a.put (some d) (.pointer (some ⟨g, n * k, none⟩)) = a1 at hr1 ⊢
  have hp1 : a1.eval (.tmp d) = .pointer (some ⟨g, n * k, none⟩) := by
    rw [← ha1]
    show (a.put (some d) (.pointer (some ⟨g, n * k, none⟩))).tmps.getD d undef = _
    rw [getD_put a d d _ (by rw [hrel.size]; exact blt_lt hn1), if_pos rfl]
  obtain ⟨us, hyv, hyf⟩ := hy w (Dc cx B R M V w) M V a1 fun t z _ hz => hr1.tmp t z hz
  have hone := hyf.one h1
  have hul : us.length = k := hyf.1.symm.trans hel
  have hblk : Blk w g ty cur.toList := by unfold Blk; rw [hg]
  have hcl : cur.toList.length = cap * k := by simpa using hcs
  refine wpList_plain hg2 fun K hK => ?_
  have hstc := run_storeCells_at (P := P) g (n * k) ty us 0 cur.toList.toArray w hblk (by simp; omega) hone
  simp only [Nat.add_zero] at hstc
  have hnew := setRow_heap w g cur.toList.toArray (cur.toList.take (n * k) ++ us ++ cur.toList.drop (n * k + us.length)).toArray ty (0, 0) hblk
  have hoth : ∀ q, q ≠ g → (w.setRow g (cur.toList.take (n * k) ++ us ++ cur.toList.drop (n * k + us.length)).toArray).heap[q]? = w.heap[q]? := fun q hq => setRow_other w g q _ hq
  have hsz' : (w.setRow g (cur.toList.take (n * k) ++ us ++ cur.toList.drop (n * k + us.length)).toArray).heap.size = w.heap.size := by simp
  have hrel' : Rel cx ((d, .junk) :: T) B ((r, ⟨ty, k, n + 1, ds ++ es, false⟩) :: R) M V a1 (w.setRow g (cur.toList.take (n * k) ++ us ++ cur.toList.drop (n * k + us.length)).toArray) := by
    generalize hw' : w.setRow g (cur.toList.take (n * k) ++ us ++ cur.toList.drop (n * k + us.length)).toArray = w' at hnew hoth hsz'
    have hos : w'.os = w.os := by rw [← hw']; rfl
    have htp : w'.tape = w.tape := by rw [← hw']; rfl
    have hou : w'.output = w.output := by rw [← hw']; rfl
    have hDne : ∀ q, Dc cx B R M V w q → q ≠ g := fun q hq e => by
      subst e
      rcases hq with hq | ⟨_, _, _, a4⟩
      · have := hh.d0 _ hq
        rcases hh.ro r _ _ hr rfl hob with h | h
        · omega
        · exact this.2 h
      · exact a4 r _ hr rfl hob
    have hkeep : Keeps (Dc cx B R M V w) w w' := fun q hq => hoth q (hDne q hq)
    have hD : ∀ q, Dc cx B R M V w q → Dc cx B ((r, ⟨ty, k, n + 1, ds ++ es, false⟩) :: R) M V w' q := fun q hq => by
      rcases hq with hq | ⟨a1, a2, a3, a4⟩
      · exact .inl hq
      · refine .inr ⟨a1, by omega, a3, fun p z hz hf => ?_⟩
        rcases lk_cons hz with ⟨rfl, rfl⟩ | ⟨_, hz⟩
        · exact a4 _ _ hr rfl
        · exact a4 p z hz hf
    refine ⟨hr1.size, hr1.defers, ⟨hh.below.turn hos htp hou (by omega) (some g) (fun q hq => by cases hq; exact hh.ro r _ _ hr rfl hob) (fun q hq hne => hoth q fun e => hne (by rw [e])), hh.d0, hh.bl, hh.gl, fun c z hz => ?_, fun q z hz => ?_, fun q z p hz hf hp => ?_, hh.pin, hh.bb, fun c q z u p hz hu hf hp => ?_, fun q p z u s hz hu hf hf' hp hs => ?_⟩, fun t z hz => (hr1.tmp t z hz).stay hkeep hD⟩
    · obtain ⟨b1, cs, b2, b3⟩ := hh.box c z hz
      refine ⟨b1, cs, ?_, b3.stay hkeep hD⟩
      unfold Blk
      rw [hoth (M c) (hh.br c r z _ g hz hr rfl hob)]
      exact b2
    · rcases lk_cons hz with ⟨rfl, rfl⟩ | ⟨hne, hz⟩
      · have : Gx w' (Dc cx B ((r, ⟨ty, k, n + 1, ds ++ es, false⟩) :: R) M V w') 0 ty k (V r) (n + 1) (ds ++ es) := by
          refine ⟨xs.take (n * k) ++ us, .inl ⟨hty, by simp [hxl, hul, Nat.succ_mul], .inr ⟨g, cap, _, hVr, Nat.zero_le _, hnew, hcap, hmax, by simp; omega, ?_⟩⟩, ?_⟩
          · rw [← hcx, Nat.succ_mul, List.take_take, Nat.min_eq_left (Nat.le_add_right _ _)]
            simp only [List.append_assoc]
            rw [List.take_append, List.take_append]
            have e1 : (List.take (n * k) cur.toList).length = n * k := by rw [List.length_take, hcl]; omega
            rw [e1, hul, Nat.add_sub_cancel_left, Nat.sub_self, List.take_zero, List.append_nil, List.take_of_length_le (l := us) (by omega), List.take_of_length_le (by rw [e1]; omega)]
          · have hf1 : Fits w (Dc cx B R M V w) ds (xs.take (n * k)) := by
              refine ⟨by rw [List.length_take, hxl, hdl, Nat.succ_mul]; omega, fun j e v he hv => ?_⟩
              have hj : j < ds.length := by
                rcases Nat.lt_or_ge j ds.length with h | h
                · exact h
                · rw [List.getElem?_eq_none h] at he; cases he
              rw [List.getElem?_take] at hv
              split at hv
              · exact hfx.2 j e v (by rw [List.getElem?_append_left hj]; exact he) hv
              · cases hv
            exact (hf1.append hyf).stay hkeep hD
        exact this
      · have h1 := hh.row q z hz
        split
        · rename_i hf
          rw [if_pos hf] at h1
          exact h1.stay hkeep hD
        · rename_i hf
          rw [if_neg hf] at h1
          obtain ⟨ys, a2, a3⟩ := h1
          refine ⟨ys, Ow.stay a2 fun p hp => hoth p fun e => ?_, a3.stay hkeep hD⟩
          subst e
          exact hne (hh.rr r q _ z _ hr hz rfl (by simpa using hf) hob hp)
    · rcases lk_cons hz with ⟨rfl, rfl⟩ | ⟨_, hz⟩
      · exact hh.ro _ _ p hr rfl hp
      · exact hh.ro q z p hz hf hp
    · rcases lk_cons hu with ⟨rfl, rfl⟩ | ⟨_, hu⟩
      · exact hh.br c _ z _ p hz hr rfl hp
      · exact hh.br c q z u p hz hu hf hp
    · rcases lk_cons hz with ⟨rfl, rfl⟩ | ⟨_, hz⟩
      · rcases lk_cons hu with ⟨rfl, rfl⟩ | ⟨_, hu⟩
        · rfl
        · exact hh.rr _ p _ u s hr hu rfl hf' hp hs
      · rcases lk_cons hu with ⟨rfl, rfl⟩ | ⟨_, hu⟩
        · exact hh.rr q _ z _ s hz hr hf rfl hp hs
        · exact hh.rr q p z u s hz hu hf hf' hp hs
  have := hK _ _ (hE M V _ _ hrel')
  have hsz := run_sizeT hst (w := w)
  unfold Oper.wp execOp
  simp only [ho2, hp1, hyv, Instr.storeAt, Instr.sureAddr, Sem.run_bind, Sem.run_pure, Result.andThen_ok]
  simp [storeVar, hsz, hul, Value.cells, hstc, Oper.upon, hd2, Act.put]
  simpa [hul] using this
end
end Go.Proofs.YtekeanikgcpijaaDoor
namespace Go.Proofs.YtekeanikgcpijaaDoor
open Go.RowKit
section
variable {P : Program} {cx : Cx} {T : TL} {B : BL} {R : RL} {M : Nat → Nat} {V : Nat → Value} {o : Oper}
theorem EFx.more {gls gls' : List (Nat × List Value)} {f : FuncId} {ps : List Part} {Y : IV → Prop} (h : EFx P gls f ps Y) (hs : ∀ x, x ∈ gls → x ∈ gls') : EFx P gls' f ps Y := fun w D vs hD hG hp => h w D vs hD (fun g cs hg => hG g cs (hs _ hg)) hp
end
end Go.Proofs.YtekeanikgcpijaaDoor
namespace Go.Proofs.YtekeanikgcpijaaDoor
open Go.RowKit
section
variable {P : Program} {cx : Cx} {T : TL} {B : BL} {R : RL} {M : Nat → Nat} {V : Nat → Value}
theorem put_get {a : Act} {d t : Nat} {v : Value} (hd : d < a.tmps.size) : (a.put (some d) v).eval (.tmp t) = if d = t then v else a.eval (.tmp t) := getD_put a d t v hd
end
end Go.Proofs.YtekeanikgcpijaaDoor
namespace Go.Proofs.YtekeanikgcpijaaDoor
open Go.RowKit
section
variable {P : Program} {cx : Cx} {T : TL} {B : BL} {R : RL} {o : Oper}
theorem s_max {x y : Operand} {ts : Array TypeId} {k k' : IntKind} {m n : Int} (ho : o.op = .call { callee := .builtin .max, args := #[x, y], argTypes := ts }) (hx : Kn T x (.is (.int k m))) (hy : Kn T y (.is (.int k' n))) : LStep P cx B R o T (.is (.int k (max m n))) := LStep.same fun M V w a _ hk => by
  have h1 := (hk x _ (by simp [ho, Op.operands, Call.operands]) hx).is_eq
  have h2 := (hk y _ (by simp [ho, Op.operands, Call.operands]) hy).is_eq
  have h3 : (if n > m then n else m) = max m n := by
    split <;> omega
  refine ⟨_, ?_, .cell _⟩
  simp [execOp, ho, h1, h2, resolve, invoke, builtin, run_max_int2, h3]
variable {M : Nat → Nat} {V : Nat → Value}
end
end Go.Proofs.YtekeanikgcpijaaDoor
namespace Go.Proofs.YtekeanikgcpijaaDoor
open Go.RowKit
section
variable {P : Program} {cx : Cx} {T : TL} {B : BL} {R : RL} {o : Oper}
theorem Rel.row_turn {M : Nat → Nat} {V : Nat → Value} {a : Act} {w w' : World} (hr : Rel cx T B R M V a w) {r g : Nat} {z z' : Rw} (hr0 : lk r R = some z) (hf0 : z.fz = false) (hob : obk (V r) = some g) (hz' : z'.fz = false) (hoth : ∀ q, q ≠ g → w'.heap[q]? = w.heap[q]?) (hsz : w'.heap.size = w.heap.size) (hos : w'.os = w.os) (htp : w'.tape = w.tape) (hou : w'.output = w.output)
    (hnew : ∀ D', Keeps (Dc cx B R M V w) w w' → (∀ q, Dc cx B R M V w q → D' q) → Gx w' D' 0 z'.ty z'.k (V r) z'.n z'.ds) : Rel cx T B ((r, z') :: R) M V a w' := by
  have hh := hr.heap
  have hDne : ∀ q, Dc cx B R M V w q → q ≠ g := fun q hq e => by
    subst e
    rcases hq with hq | ⟨_, _, _, a4⟩
    · have := hh.d0 _ hq
      rcases hh.ro r _ _ hr0 hf0 hob with h | h
      · omega
      · exact this.2 h
    · exact a4 r _ hr0 hf0 hob
  have hkeep : Keeps (Dc cx B R M V w) w w' := fun q hq => hoth q (hDne q hq)
  have hD : ∀ q, Dc cx B R M V w q → Dc cx B ((r, z') :: R) M V w' q := fun q hq => by
    rcases hq with hq | ⟨a1, a2, a3, a4⟩
    · exact .inl hq
    · refine .inr ⟨a1, by omega, a3, fun p y hy hf => ?_⟩
      rcases lk_cons hy with ⟨rfl, rfl⟩ | ⟨_, hy⟩
      · exact a4 _ _ hr0 hf0
      · exact a4 p y hy hf
  refine ⟨hr.size, hr.defers, ⟨hh.below.turn hos htp hou (by omega) (some g) (fun q hq => by cases hq; exact hh.ro r _ _ hr0 hf0 hob) (fun q hq hne => hoth q fun e => hne (by rw [e])), hh.d0, hh.bl, hh.gl, fun c y hy => ?_, fun q y hy => ?_, fun q y p hy hf hp => ?_, hh.pin, hh.bb, fun c q y u p hy hu hf hp => ?_, fun q p y u s hy hu hf hf' hp hs => ?_⟩, fun t y hy => (hr.tmp t y hy).stay hkeep hD⟩
  · obtain ⟨b1, cs, b2, b3⟩ := hh.box c y hy
    refine ⟨b1, cs, ?_, b3.stay hkeep hD⟩
    unfold Blk
    rw [hoth (M c) (hh.br c r y _ g hy hr0 hf0 hob)]
    exact b2
  · rcases lk_cons hy with ⟨rfl, rfl⟩ | ⟨hne, hy⟩
    · rw [hz']
      exact hnew _ hkeep hD
    · have h1 := hh.row q y hy
      split
      · rename_i hf
        rw [if_pos hf] at h1
        exact h1.stay hkeep hD
      · rename_i hf
        rw [if_neg hf] at h1
        obtain ⟨ys, a2, a3⟩ := h1
        refine ⟨ys, Ow.stay a2 fun p hp => hoth p fun e => ?_, a3.stay hkeep hD⟩
        subst e
        exact hne (hh.rr r q _ y _ hr0 hy hf0 (by simpa using hf) hob hp)
  · rcases lk_cons hy with ⟨rfl, rfl⟩ | ⟨_, hy⟩
    · exact hh.ro _ _ p hr0 hf0 hp
    · exact hh.ro q y p hy hf hp
  · rcases lk_cons hu with ⟨rfl, rfl⟩ | ⟨_, hu⟩
    · exact hh.br c _ y _ p hy hr0 hf0 hp
    · exact hh.br c q y u p hy hu hf hp
  · rcases lk_cons hy with ⟨rfl, rfl⟩ | ⟨_, hy2⟩
    · rcases lk_cons hu with ⟨rfl, rfl⟩ | ⟨_, hu2⟩
      · rfl
      · exact hh.rr _ p _ u s hr0 hu2 hf0 hf' hp hs
    · rcases lk_cons hu with ⟨rfl, rfl⟩ | ⟨_, hu2⟩
      · exact hh.rr q _ y _ s hy2 hr0 hf hf0 hp hs
      · exact hh.rr q p y u s hy2 hu2 hf hf' hp hs
variable {α : Type}
def mds (kf : α → Value) (ps : List (α × Dat)) : List Dat := ps.flatMap fun p => [.cell (kf p.1), p.2]
def mget [DecidableEq α] (x : α) : List (α × Dat) → Option Dat
  | [] => none
  | p :: ps => if x = p.1 then some p.2 else mget x ps
def mset [DecidableEq α] (x : α) (d : Dat) : List (α × Dat) → List (α × Dat)
  | [] => [(x, d)]
  | p :: ps => if x = p.1 then (x, d) :: ps else p :: mset x d ps
structure KeyF [DecidableEq α] (P : Program) (kt : TypeId) (kf : α → Value) : Prop where
  same : ∃ desc, P.underlying kt = some desc ∧ ∀ x y : α, Instr.sameNow desc (kf x) (kf y) = some (decide (x = y))
  chk : ∀ (e : Bool) (x : α) (w : World), (Instr.checkKey e 10000 kt (kf x)).run P w = .ok () w
  bits : ∀ x : α, Instr.sameBits 10000 (kf x) (kf x) = true
theorem str_beq (a b : List UInt8) : (str a == str b) = decide (a = b) := by
  have : (str a == str b) = ((str a).data == (str b).data) := rfl
  rw [this]
  by_cases h : a = b
  · subst h
    simp
  · rw [decide_eq_false h]
    simpa [str] using h
theorem keyStr {kt : TypeId} (h : P.underlying kt = some .string) : KeyF P kt (fun s : List UInt8 => Value.string (str s)) :=
  ⟨⟨_, h, fun x y => congrArg some (str_beq x y)⟩, fun e x w => by unfold Instr.checkKey; simp [run_underlying h, Result.andThen], fun x => by unfold Instr.sameBits; rw [str_beq]; simp⟩
theorem keyInt {kt : TypeId} {k : IntKind} (h : P.underlying kt = some (.int k)) : KeyF P kt (fun z : Int => Value.int k z) :=
  ⟨⟨_, h, fun x y => by simp only [Instr.sameNow, if_true]; congr 1⟩, fun e x w => by unfold Instr.checkKey; simp [run_underlying h, Result.andThen], fun x => by simp [Instr.sameBits]⟩
def MEs (w : World) (D : Nat → Prop) (kf : α → Value) : List (α × Dat) → List MapEntry → Prop
  | [], [] => True
  | p :: ps, e :: es => e.key = kf p.1 ∧ Lies w D p.2 e.val ∧ MEs w D kf ps es
  | _, _ => False
variable {w w' : World} {D D' : Nat → Prop} {kf : α → Value}
theorem mes_of : ∀ {ps : List (α × Dat)} {es : List MapEntry}, Fits w D (mds kf ps) (kvs es) → MEs w D kf ps es
  | [], [], _ => trivial
  | p :: ps, e :: es, h => by
    obtain ⟨x, ys, h1, h2, h3⟩ := Fits.head (d := .cell (kf p.1)) (ds := p.2 :: mds kf ps) h
    obtain ⟨x', ys', h4, h5, h6⟩ := Fits.head h3
    have e1 : e.key :: e.val :: kvs es = x :: ys := h1
    rw [h4] at e1
    injection e1 with e1 e2
    injection e2 with e2 e3
    exact ⟨e1.trans h2.cell_eq, e2 ▸ h5, mes_of (e3 ▸ h6)⟩
  | [], e :: es, h => by have := h.1; simp [mds, kvs] at this
  | p :: ps, [], h => by have := h.1; simp [mds, kvs] at this
theorem fits_mes : ∀ {ps : List (α × Dat)} {es : List MapEntry}, MEs w D kf ps es → Fits w D (mds kf ps) (kvs es)
  | [], [], _ => Fits.nil _ _
  | p :: ps, e :: es, h => .cons (by rw [h.1]; exact .cell _) (.cons h.2.1 (fits_mes h.2.2))
  | [], _ :: _, h => h.elim
  | _ :: _, [], h => h.elim
theorem MEs.length : ∀ {ps : List (α × Dat)} {es : List MapEntry}, MEs w D kf ps es → es.length = ps.length
  | [], [], _ => rfl
  | _ :: _, _ :: _, h => by simp [MEs.length h.2.2]
  | [], _ :: _, h => h.elim
  | _ :: _, [], h => h.elim
theorem MEs.stay (hk : Keeps D w w') (hD : ∀ g, D g → D' g) : ∀ {ps : List (α × Dat)} {es : List MapEntry}, MEs w D kf ps es → MEs w' D' kf ps es
  | [], [], _ => trivial
  | _ :: _, _ :: _, h => ⟨h.1, h.2.1.stay hk hD, MEs.stay hk hD h.2.2⟩
  | [], _ :: _, h => h.elim
  | _ :: _, [], h => h.elim
variable [DecidableEq α]
theorem mes_find {kt : TypeId} (K : KeyF P kt kf) {desc : TypeDesc} (hd : P.underlying kt = some desc) (x : α) : ∀ {ps : List (α × Dat)} {es : List MapEntry} (i : Nat), MEs w D kf ps es →
    (mget x ps = none ∧ Instr.findNow desc (kf x) es i = some none ∧ ∀ d v w' D' b, MEs w' D' kf ps es → Lies w' D' d v → MEs w' D' kf (mset x d ps) (es ++ [{ key := kf x, val := v, born := b }])) ∨
    ∃ j d e, mget x ps = some d ∧ es[j]? = some e ∧ e.key = kf x ∧ Lies w D d e.val ∧ Instr.findNow desc (kf x) es i = some (some (i + j, e.val)) ∧ ∀ d' v w' D', MEs w' D' kf ps es → Lies w' D' d' v → MEs w' D' kf (mset x d' ps) (es.modify j fun e => { e with key := kf x, val := v })
  | [], [], i, _ => .inl ⟨rfl, rfl, fun d v w' D' b _ hv => ⟨rfl, hv, trivial⟩⟩
  | p :: ps, e :: es, i, h => by
    obtain ⟨desc', h1, h2⟩ := K.same
    obtain rfl : desc = desc' := Option.some.inj (hd.symm.trans h1)
    by_cases hx : x = p.1
    · refine .inr ⟨0, p.2, e, by simp [mget, hx], rfl, h.1.trans (by rw [hx]), h.2.1, ?_, fun d' v w' D' h' hv => ?_⟩
      · simp [Instr.findNow, h.1, h2, hx]
      · have : mset x d' (p :: ps) = (x, d') :: ps := by simp [mset, hx]
        rw [this]
        exact ⟨rfl, hv, h'.2.2⟩
    · have e0 : Instr.findNow desc (kf x) (e :: es) i = Instr.findNow desc (kf x) es (i + 1) := by simp [Instr.findNow, h.1, h2, hx]
      have e1 : mget x (p :: ps) = mget x ps := by simp [mget, hx]
      have e2 : ∀ d, mset x d (p :: ps) = p :: mset x d ps := fun d => by simp [mset, hx]
      rw [e0, e1]
      rcases mes_find K hd x (i + 1) h.2.2 with ⟨a1, a2, a3⟩ | ⟨j, d, e', a1, a2, a3, a4, a5, a6⟩
      · exact .inl ⟨a1, a2, fun d v w' D' b h' hv => by rw [e2]; exact ⟨h'.1, h'.2.1, a3 d v w' D' b h'.2.2 hv⟩⟩
      · refine .inr ⟨j + 1, d, e', a1, by simpa using a2, a3, a4, by rw [a5]; congr 3; omega, fun d' v w' D' h' hv => ?_⟩
        rw [e2, List.modify_succ_cons]
        exact ⟨h'.1, h'.2.1, a6 d' v w' D' h'.2.2 hv⟩
  | [], _ :: _, _, h => h.elim
  | _ :: _, [], _, h => h.elim
theorem run_look {t kt et : TypeId} (ht : P.underlying t = some (.map kt et)) (K : KeyF P kt kf) {z : Value} (hz : ∀ w : World, (zeroValue et).run P w = .ok z w) {g : Nat} {es : Array MapEntry} {clock : Nat} (hg : w.heap[g]? = some (.map es clock)) {ps : List (α × Dat)} (h : MEs w D kf ps es.toList) (x : α) (ok : Bool) :
    ∃ v, Lies w D ((mget x ps).getD (.cell z)) v ∧ (Instr.lookup t (.map (some g)) (kf x) ok).run P w = .ok (if ok then .tuple #[v, .bool (mget x ps).isSome] else v) w := by
  obtain ⟨desc, h1, _⟩ := K.same
  rcases mes_find K h1 x 0 h with ⟨a1, a2, _⟩ | ⟨j, d, e', a1, a2, a3, a4, a5, _⟩
  · refine ⟨z, by rw [a1]; exact .cell z, ?_⟩
    simp [Instr.lookup, run_underlying ht, MapKept.run_getObj_map hg, K.chk, Instr.findKey, run_underlying h1, a2, hz, Result.andThen, a1]
  · refine ⟨e'.val, by rw [a1]; exact a4, ?_⟩
    simp [Instr.lookup, run_underlying ht, MapKept.run_getObj_map hg, K.chk, Instr.findKey, run_underlying h1, a5, Result.andThen, a1]
end
end Go.Proofs.YtekeanikgcpijaaDoor
namespace Go.Proofs.YtekeanikgcpijaaDoor
open Go.RowKit
section
variable {P : Program} {cx : Cx} {T : TL} {B : BL} {R : RL} {o : Oper} {α : Type} {kf : α → Value}
def zeroV (P : Program) (t : TypeId) : Option Value := (P.info? t).bind (·.zero)
theorem run_zeroV {t : TypeId} {z : Value} (h : zeroV P t = some z) (w : World) : (zeroValue t).run P w = .ok z w := by
  unfold zeroV at h
  cases hi : P.info? t with
  | none => simp [hi] at h
  | some i =>
    have hz : i.zero = some z := by simpa [hi] using h
    simp [zeroValue, typeInfo, hi, hz, Result.andThen]
theorem MapRow.mes {w : World} {D : Nat → Prop} {base : Nat} {e : TypeId} {k n : Nat} {v : Value} {ps : List (α × Dat)} (h : Gx w D base e k v n (mds kf ps)) (hty : Nat.blt e 1000000 = false) : ∃ g es clock, v = .map (some g) ∧ base ≤ g ∧ w.heap[g]? = some (.map es clock) ∧ es.size = n ∧ MEs w D kf ps es.toList := by
  obtain ⟨xs, ⟨h0, _⟩ | ⟨_, g, es, clock, h1, h2, h3, h4, h5⟩, h6⟩ := h
  · rw [hty] at h0; cases h0
  · exact ⟨g, es, clock, h1, h2, h3, h4, mes_of (h5 ▸ h6)⟩
variable [DecidableEq α]
omit [DecidableEq α] in
theorem lies_mes {w : World} {D : Nat → Prop} {n : Nat} {v : Value} {ps : List (α × Dat)} (h : Lies w D (.map n (mds kf ps)) v) : ∃ g es clock, v = .map (some g) ∧ w.heap[g]? = some (.map es clock) ∧ es.size = n ∧ MEs w D kf ps es.toList := by
  generalize hd : mds kf ps = ds at h
  cases h with
  | map g n es clock ds xs h1 h2 h3 h4 h5 h6 =>
    subst hd
    subst h4
    exact ⟨g, es, clock, rfl, h2, h3, mes_of ⟨h5, h6⟩⟩
theorem s_dlook {x i : Operand} {t kt et : TypeId} {n : Nat} {ps : List (α × Dat)} {c : α} {z : Value} (ho : o.op = .lookup t x i true) (hx : Kn T x (.part (.one (.map n (mds kf ps))))) (hi : Kn T i (.is (kf c))) (K : KeyF P kt kf) (ht : P.underlying t = some (.map kt et)) (hz : zeroV P et = some z) :
    LStep P cx B R o T (.tup [.one ((mget c ps).getD (.cell z)), .one (.cell (.bool (mget c ps).isSome))]) := LStep.same fun M V w a hh hk => by
  have h1 : Lies w _ _ (a.eval x) := hk x _ (by simp [ho, Op.operands]) hx
  have h2 : a.eval i = kf c := (hk i _ (by simp [ho, Op.operands]) hi).is_eq
  obtain ⟨g, es, clock, e1, e3, _, e5⟩ := lies_mes h1
  obtain ⟨v, hv, hrun⟩ := run_look ht K (run_zeroV hz) e3 e5 c true
  exact ⟨.tuple [v, .bool (mget c ps).isSome].toArray, by simp [execOp, ho, h2, e1, hrun], [v, .bool (mget c ps).isSome], rfl, hv, .cell _, trivial⟩
theorem s_dlook1 {x i : Operand} {t kt et : TypeId} {n : Nat} {ps : List (α × Dat)} {c : α} {z : Value} (ho : o.op = .lookup t x i false) (hx : Kn T x (.part (.one (.map n (mds kf ps))))) (hi : Kn T i (.is (kf c))) (K : KeyF P kt kf) (ht : P.underlying t = some (.map kt et)) (hz : zeroV P et = some z) :
    LStep P cx B R o T (.part (.one ((mget c ps).getD (.cell z)))) := LStep.same fun M V w a hh hk => by
  have h1 : Lies w _ _ (a.eval x) := hk x _ (by simp [ho, Op.operands]) hx
  have h2 : a.eval i = kf c := (hk i _ (by simp [ho, Op.operands]) hi).is_eq
  obtain ⟨g, es, clock, e1, e3, _, e5⟩ := lies_mes h1
  obtain ⟨v, hv, hrun⟩ := run_look ht K (run_zeroV hz) e3 e5 c false
  exact ⟨_, by simp [execOp, ho, h2, e1, hrun], hv⟩
theorem e_mset {ops : Array Oper} {Q : Exit → Act → World → Prop} {l : List Oper} {x i y : Operand} {t kt et : TypeId} {r k n ty : Nat} {ps : List (α × Dat)} {c : α} {d : Dat} (hg : o.guard = none) (hd : o.dst = none) (ho : o.op = .mapUpdate t x i y) (hx : Kn T x (.own r)) (hr : lk r R = some ⟨ty, k, n, mds kf ps, false⟩) (hi : Kn T i (.is (kf c))) (hy : Kn T y (.part (.one d))) (K : KeyF P kt kf) (ht : P.underlying t = some (.map kt et))
    (hE : E cx T B ((r, ⟨ty, k, (mset c d ps).length, mds kf (mset c d ps), false⟩) :: R) (wpList P ops Q l)) (hty : Nat.blt ty 1000000 = false := by rfl) : E cx T B R (wpList P ops Q (o :: l)) := fun M V a w hrel => by
  refine wpList_plain hg fun Q' hK => ?_
  have hh := hrel.heap
  have hxv : a.eval x = V r := hx w (Dc cx B R M V w) M V a fun t z _ hz => hrel.tmp t z hz
  have hiv : a.eval i = kf c := (hi w (Dc cx B R M V w) M V a fun t z _ hz => hrel.tmp t z hz).is_eq
  have hyv : Lies w (Dc cx B R M V w) d (a.eval y) := hy w (Dc cx B R M V w) M V a fun t z _ hz => hrel.tmp t z hz
  have hrow : Gx w (Dc cx B R M V w) 0 ty k (V r) n (mds kf ps) := hh.row r _ hr
  obtain ⟨g, es, clock, e1, _, e3, e4, e5⟩ := MapRow.mes hrow hty
  have hob : obk (V r) = some g := by rw [e1]; rfl
  obtain ⟨desc, h1, _⟩ := K.same
  have hout : ∃ es' clock', (Instr.mapUpdate t (.map (some g)) (kf c) (a.eval y)).run P w = .ok () (ChangeMaps.setBlock w g (.map es' clock')) ∧ ∀ w' D', MEs w' D' kf ps es.toList → Lies w' D' d (a.eval y) → MEs w' D' kf (mset c d ps) es'.toList := by
    rcases mes_find K h1 c 0 e5 with ⟨a1, a2, a3⟩ | ⟨j, d0, e', a1, a2, a3, a4, a5, a6⟩
    · refine ⟨es.push { key := kf c, val := a.eval y, born := clock }, clock + 1, ?_, fun w' D' hm hv => ?_⟩
      · simp [Instr.mapUpdate, run_underlying ht, MapKept.run_getObj_map e3, K.chk, Instr.findKey, run_underlying h1, a2, MapKept.run_setObj_map _ e3, Result.andThen, ChangeMaps.setBlock]
      · rw [Array.toList_push]
        exact a3 d _ w' D' clock hm hv
    · have hj : es[j]? = some e' := by simpa using a2
      refine ⟨es.modify j fun e => { e with key := kf c, val := a.eval y }, clock, ?_, fun w' D' hm hv => ?_⟩
      · simp [Instr.mapUpdate, run_underlying ht, MapKept.run_getObj_map e3, K.chk, Instr.findKey, run_underlying h1, a5, hj, a3, Instr.keyThatStays, K.bits, MapKept.run_setObj_map _ e3, Result.andThen, ChangeMaps.setBlock]
      · rw [Array.toList_modify]
        exact a6 d _ w' D' hm hv
  obtain ⟨es', clock', hrun, hmes⟩ := hout
  have hrel' : Rel cx T B ((r, ⟨ty, k, (mset c d ps).length, mds kf (mset c d ps), false⟩) :: R) M V a (ChangeMaps.setBlock w g (.map es' clock')) := by
    refine hrel.row_turn hr rfl hob rfl (fun q hq => ChangeMaps.heap_setBlock_other e3 _ hq) (by simp [ChangeMaps.setBlock]) rfl rfl rfl fun D' hk hD => ?_
    have hm := hmes _ _ (MEs.stay hk hD e5) (hyv.stay hk hD)
    exact ⟨_, .inr ⟨hty, g, es', clock', e1, Nat.zero_le _, ChangeMaps.heap_setBlock_same e3 _, by rw [← hm.length]; simp, rfl⟩, fits_mes hm⟩
  have := hK _ _ (hE M V _ _ hrel')
  unfold Oper.wp execOp
  simp [ho, hxv, hiv, e1, hrun, Oper.upon, hd, Result.andThen]
  exact this
end
end Go.Proofs.YtekeanikgcpijaaDoor
