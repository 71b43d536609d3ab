/- Part 8 of what the last text of this claim is proved by: walks over the program, and the math behind them. Conditions: as each theorem says. -/
import Derived.Test.YtohhbpoifidbhaaCN07
import Derived.Laws.MakeOwn
namespace Go.Proofs.Ytohhbpoifidbhaa
open Go.RowKit
def pickT (L : List Bool) : List (Nat × Nat × IV) → TL
  | [] => []
  | (i, s, y) :: es => bif L.getD i false then (s, y) :: pickT L es else pickT L es
def pickS (L : List Bool) : List Nat → List (Nat × Nat × Bx) → BL
  | _, [] => []
  | sn, (i, s, y) :: es => bif L.getD i false && !(sn.any fun c => Nat.beq c s) then (s, y) :: pickS L (s :: sn) es else pickS L sn es
def pickB (L : List Bool) (es : List (Nat × Nat × Bx)) : BL := pickS L [] es
def dagB (deps : List (List Nat)) (L0 full : List Bool) (reach : List (List Bool)) (steps : List (List Bool × Nat)) : Bool :=
  reach.contains L0 && reach.all fun L => bif L == full then (readyC L 0 deps).isEmpty && (L.count false == 0) else
    !(readyC L 0 deps).isEmpty && (readyC L 0 deps).all fun i => steps.contains (L, i) && reach.contains (L.set i true) && ((L.set i true).count false + 1 == L.count false)
section
variable {P : Program} {cx : Cx} {T0 : TL} {B0 : BL} {R : RL} {ops : Array Oper} {Q : Exit → Act → World → Prop} {deps : List (List Nat)} {es : List (Nat × Nat × IV)} {bs : List (Nat × Nat × Bx)}
def AllSteps (P : Program) (cx : Cx) (T0 : TL) (B0 : BL) (R : RL) (ops : Array Oper) (Q : Exit → Act → World → Prop) (es : List (Nat × Nat × IV)) (bs : List (Nat × Nat × Bx)) : List (List Bool × Nat) → Prop
  | [] => True
  | (L, i) :: r => (∀ K, E cx (T0 ++ pickT (L.set i true) es) (pickB (L.set i true) bs ++ B0) R K → E cx (T0 ++ pickT L es) (pickB L bs ++ B0) R (wpOp P ops Q i K)) ∧ AllSteps P cx T0 B0 R ops Q es bs r
theorem AllSteps.get : ∀ {st : List (List Bool × Nat)} (_ : AllSteps P cx T0 B0 R ops Q es bs st) {L : List Bool} {i : Nat}, (L, i) ∈ st → ∀ K, E cx (T0 ++ pickT (L.set i true) es) (pickB (L.set i true) bs ++ B0) R K → E cx (T0 ++ pickT L es) (pickB L bs ++ B0) R (wpOp P ops Q i K)
  | (L', j) :: r, h, L, i, hm => by
    rcases List.mem_cons.1 hm with e | hm
    · injection e with e1 e2
      subst e1 e2
      exact h.1
    · exact AllSteps.get h.2 hm
  | [], _, _, _, hm => by cases hm
theorem AnyE.of {T : TL} {B : BL} {fuel : Nat} {L : List Bool} : ∀ {is : List Nat}, (∀ i ∈ is, E cx T B R (wpOp P ops Q i (wpAny P .any ops Q fuel (L.set i true).toArray))) → AnyE P cx T B R ops Q fuel L is
  | [], _ => trivial
  | i :: is, h => ⟨h i List.mem_cons_self, AnyE.of fun j hj => h j (List.mem_cons_of_mem _ hj)⟩
end
end Go.Proofs.Ytohhbpoifidbhaa
namespace Go.Proofs.Ytohhbpoifidbhaa
open Go.RowKit
section
variable {P : Program}
variable {cx : Cx} {T : TL} {B : BL} {R : RL} {M : Nat → Nat} {V : Nat → Value} {o : Oper}
theorem kn_imp {x : Operand} {y z : IV} (h : Kn T x y) (hi : Imp y z) : Kn T x z := fun w D M V a hT => hi w D M V _ (h w D M V a hT)
variable {α : Type} {kf : α → Value} [DecidableEq α]
end
def pickA {α : Type} (L : List Bool) : List Nat → List (Nat × Nat × α) → List (Nat × α)
  | _, [] => []
  | sn, (i, s, y) :: es => bif L.getD i false && !(sn.any fun c => Nat.beq c s) then (s, y) :: pickA L (s :: sn) es else pickA L sn es
section
variable {P : Program} {cx : Cx} {T0 : TL} {B0 : BL} {R0 : RL} {ops : Array Oper} {Q : Exit → Act → World → Prop} {deps : List (List Nat)} {es : List (Nat × Nat × IV)} {bs : List (Nat × Nat × Bx)} {rs : List (Nat × Nat × Rw)}
def AllStepsR (P : Program) (cx : Cx) (T0 : TL) (B0 : BL) (R0 : RL) (ops : Array Oper) (Q : Exit → Act → World → Prop) (es : List (Nat × Nat × IV)) (bs : List (Nat × Nat × Bx)) (rs : List (Nat × Nat × Rw)) : List (List Bool × Nat) → Prop
  | [] => True
  | (L, i) :: r => (∀ K, E cx (T0 ++ pickA (L.set i true) [] es) (pickA (L.set i true) [] bs ++ B0) (pickA (L.set i true) [] rs ++ R0) K → E cx (T0 ++ pickA L [] es) (pickA L [] bs ++ B0) (pickA L [] rs ++ R0) (wpOp P ops Q i K)) ∧ AllStepsR P cx T0 B0 R0 ops Q es bs rs r
theorem AllStepsR.get : ∀ {st : List (List Bool × Nat)} (_ : AllStepsR P cx T0 B0 R0 ops Q es bs rs st) {L : List Bool} {i : Nat}, (L, i) ∈ st → ∀ K, E cx (T0 ++ pickA (L.set i true) [] es) (pickA (L.set i true) [] bs ++ B0) (pickA (L.set i true) [] rs ++ R0) K → E cx (T0 ++ pickA L [] es) (pickA L [] bs ++ B0) (pickA L [] rs ++ R0) (wpOp P ops Q i K)
  | (L', j) :: r, h, L, i, hm => by
    rcases List.mem_cons.1 hm with e | hm
    · injection e with e1 e2
      subst e1 e2
      exact h.1
    · exact AllStepsR.get h.2 hm
  | [], _, _, _, hm => by cases hm
theorem e_statesR {L0 full : List Bool} {reach : List (List Bool)} {steps : List (List Bool × Nat)} (hd : depsOf ops = deps) (hB : dagB deps L0 full reach steps = true) (hs : AllStepsR P cx T0 B0 R0 ops Q es bs rs steps) (hend : E cx (T0 ++ pickA full [] es) (pickA full [] bs ++ B0) (pickA full [] rs ++ R0) (Q .normal)) :
    ∀ (m : Nat) (L : List Bool), L.count false = m → L ∈ reach → E cx (T0 ++ pickA L [] es) (pickA L [] bs ++ B0) (pickA L [] rs ++ R0) (wpAny P .any ops Q m L.toArray) := by
  simp only [dagB, Bool.and_eq_true] at hB
  have hall := List.all_eq_true.1 hB.2
  intro m
  induction m with
  | zero =>
    intro L hm hL
    have h := hall L hL
    cases hf : (L == full) with
    | true =>
      rw [hf] at h
      simp only [cond_true, Bool.and_eq_true] at h
      rw [beq_iff_eq] at hf
      subst hf
      exact e_any0 hd h.1 hend
    | false =>
      rw [hf] at h
      simp only [cond_false, Bool.and_eq_true] at h
      cases hr : readyC L 0 deps with
      | nil => rw [hr] at h; exact absurd h.1 (by decide)
      | cons i is =>
        have h2 := List.all_eq_true.1 h.2 i (by rw [hr]; exact List.mem_cons_self)
        simp only [Bool.and_eq_true, beq_iff_eq] at h2
        omega
  | succ m ih =>
    intro L hm hL
    have h := hall L hL
    cases hf : (L == full) with
    | true =>
      rw [hf] at h
      simp only [cond_true, Bool.and_eq_true, beq_iff_eq] at h
      omega
    | false =>
      rw [hf] at h
      simp only [cond_false, Bool.and_eq_true, Bool.not_eq_true'] at h
      refine e_any hd h.1 (AnyE.of fun i hi => ?_)
      have h2 := List.all_eq_true.1 h.2 i hi
      simp only [Bool.and_eq_true, beq_iff_eq, List.contains_iff_mem] at h2
      exact hs.get h2.1.1 _ (ih _ (by omega) h2.1.2)
theorem e_subR {T T' : TL} {B B' : BL} {R R' : RL} {K : Act → World → Prop} (hK : E cx T' B' R' K) (hT : SubT T T') (hB : SubB B B') (hR : SubR R R') : E cx T B R K := e_sub hT hB hR hK
theorem e_draw_sr {id : Nat} {l : List Oper} (n : Nat) (deps : List (List Nat)) (reach : List (List Bool)) (steps : List (List Bool × Nat)) (es : List (Nat × Nat × IV)) (bs : List (Nat × Nat × Bx)) (rs : List (Nat × Nat × Rw)) {T : TL} {B : BL} {R : RL} (T0 : TL) (B0 : BL) (R0 : RL) (hd : depsOf l.toArray = deps) (hn : l.toArray.size = n) (hm : P.follows .mixedOrders = true) (hB : dagB deps (List.replicate n false) (List.replicate n true) reach steps = true) (hc : (List.replicate n false).count false = n)
    (h0 : ∀ K, E cx (T0 ++ pickA (List.replicate n false) [] es) (pickA (List.replicate n false) [] bs ++ B0) (pickA (List.replicate n false) [] rs ++ R0) K → E cx T B R K) (hs : AllStepsR P cx T0 B0 R0 l.toArray Q es bs rs steps) (hend : E cx (T0 ++ pickA (List.replicate n true) [] es) (pickA (List.replicate n true) [] bs ++ B0) (pickA (List.replicate n true) [] rs ++ R0) (Q .normal)) : E cx T B R ((Code.region id l.toArray true).wp P Q) := by
  refine e_draw_any n _ deps hd hn hm rfl fun _ => h0 _ ?_
  refine e_statesR hd hB hs hend n _ hc ?_
  simp only [dagB, Bool.and_eq_true, List.contains_iff_mem] at hB
  exact hB.1
end
end Go.Proofs.Ytohhbpoifidbhaa
namespace Go.Proofs.Ytohhbpoifidbhaa
open Go.RowKit
def EFqx (P : Program) (Q : World → Prop) (gls : List (Nat × List Value)) (f : FuncId) (ps : List Part) (Y : IV → Prop) : Prop :=
  ∀ (w : World) (D : Nat → Prop) (vs : List Value), (∀ g, D g → g < w.heap.size) → GlOK gls w → Q w → PsFit w D ps vs → Calls P f vs.toArray w (Gives w D Y)
theorem EFx.q {P : Program} {Q : World → Prop} {gls gls' : List (Nat × List Value)} {f : FuncId} {ps : List Part} {Y : IV → Prop} (h : EFx P gls f ps Y) (hs : ∀ x, x ∈ gls → x ∈ gls') : EFqx P Q gls' f ps Y := fun w D vs hD hG _ hp => h w D vs hD (fun g cs hg => hG g cs (hs _ hg)) hp
section
variable {P : Program} {cx : Cx} {T : TL} {B : BL} {R : RL} {o : Oper} {Q : World → Prop}
end
end Go.Proofs.Ytohhbpoifidbhaa
namespace Go.Proofs.Ytohhbpoifidbhaa
open Go.RowKit
def ddS : List Nat → BL → BL
  | _, [] => []
  | sn, (j, x) :: l => bif sn.any fun c => Nat.beq c j then ddS sn l else (j, x) :: ddS (j :: sn) l
theorem lk_ddS : ∀ (l : BL) (sn : List Nat) (b : Nat), b ∉ sn → lk b (ddS sn l) = lk b l
  | [], _, _, _ => rfl
  | (j, x) :: l, sn, b, hb => by
    unfold ddS
    cases h : sn.any fun c => Nat.beq c j with
    | true =>
      obtain ⟨c, hc, e⟩ := List.any_eq_true.1 h
      have e' : c = j := Nat.eq_of_beq_eq_true e
      have hj : j ≠ b := fun e2 => hb (by rw [← e2, ← e']; exact hc)
      rw [cond_true, lk_ddS l sn b hb, lk_cons_ne _ _ hj]
    | false =>
      rw [cond_false]
      by_cases e : j = b
      · subst e
        rw [lk_cons_eq, lk_cons_eq]
      · rw [lk_cons_ne _ _ e, lk_cons_ne _ _ e]
        exact lk_ddS l (j :: sn) b (by
          rintro (_ | ⟨_, h⟩)
          · exact e rfl
          · exact hb h)
section
variable {cx : Cx} {T : TL} {B B' : BL} {R : RL} {K : Act → World → Prop}
theorem Dc.lkB (h : ∀ b, lk b B = lk b B') (M : Nat → Nat) (V : Nat → Value) (w : World) : Dc cx B R M V w = Dc cx B' R M V w := by
  funext g
  unfold Dc
  simp only [h]
theorem e_lkB (h : ∀ b, lk b B = lk b B') (hE : E cx T B' R K) : E cx T B R K := fun M V a w hr => by
  have hD := Dc.lkB (cx := cx) (R := R) h M V w
  have hh := hr.heap
  refine hE M V a w ⟨hr.size, hr.defers, ⟨hh.below, hh.d0, hh.bl, hh.gl, fun b x hx => ?_, fun r x hx => ?_, hh.ro, hh.pin, fun b c x y hx hy => hh.bb b c x y (by rw [h]; exact hx) (by rw [h]; exact hy), fun b r x y g hx => hh.br b r x y g (by rw [h]; exact hx), hh.rr⟩, fun t x hx => ?_⟩
  · have := hh.box b x (by rw [h]; exact hx)
    rwa [hD] at this
  · have := hh.row r x hx
    rwa [hD] at this
  · have := hr.tmp t x hx
    rwa [hD] at this
theorem e_dd (hE : E cx T B R K) : E cx T (ddS [] B) R K := e_lkB (fun b => lk_ddS B [] b (by simp)) hE
end
end Go.Proofs.Ytohhbpoifidbhaa
namespace Go.Proofs.Ytohhbpoifidbhaa
open Go.RowKit
abbrev atv (r : Nat) (v0 : Value) : IV := .via r fun a u => u = a ∧ a = v0
abbrev pinv (r : Nat) (v0 : Value) : IV := .via r fun a _ => a = v0
theorem atv_is (r : Nat) (v0 : Value) : Imp (atv r v0) (.is v0) := fun w D M V v h => by
  obtain ⟨h1, h2⟩ := (show v = V r ∧ V r = v0 from h)
  subst h1
  rw [h2]
  exact .cell v0
section
variable {P : Program} {cx : Cx} {T : TL} {B : BL} {R : RL} {M : Nat → Nat} {V : Nat → Value} {o : Oper}
theorem e_pin_slot {K : Act → World → Prop} (s : Nat) {t r : Nat} {v0 : Value} (ht : lk t T = some (atv r v0)) (h : E cx ((s, pinv r v0) :: T) B R K) : E cx T B R K := fun M V a w hr => h M V a w ⟨hr.size, hr.defers, hr.heap, fun q z hz => by
  rcases lk_cons hz with ⟨rfl, rfl⟩ | ⟨_, hz⟩
  · exact (show _ ∧ _ from hr.tmp t _ ht).2
  · exact hr.tmp q z hz⟩
theorem e_unpin {K : Act → World → Prop} {t r : Nat} (ht : lk t T = some (.own r)) (h : ∀ v0, E cx ((t, atv r v0) :: T) B R K) : E cx T B R K := fun M V a w hr => h (V r) M V a w ⟨hr.size, hr.defers, hr.heap, fun q z hz => by
  rcases lk_cons hz with ⟨rfl, rfl⟩ | ⟨_, hz⟩
  · exact ⟨hr.tmp t _ ht, rfl⟩
  · exact hr.tmp q z hz⟩
theorem VR.atv_of {w : World} {D : Nat → Prop} {r : Nat} {v0 v : Value} (h : VR w D M V (.is v0) v) (hp : V r = v0) : VR w D M V (atv r v0) v := by
  have h1 : v = v0 := Lies.cell_eq h
  exact ⟨h1.trans hp.symm, hp⟩
section
variable {ops : Array Oper} {Q : Exit → Act → World → Prop} {l : List Oper}
end
end
end Go.Proofs.Ytohhbpoifidbhaa
namespace Go.Proofs.Ytohhbpoifidbhaa
open Go.RowKit
section
variable {P : Program} {cx : Cx} {T : TL} {B : BL} {R : RL} {o : Oper} {ops : Array Oper} {Q : Exit → Act → World → Prop} {l : List Oper}
theorem e_unpin1 {K : Act → World → Prop} {t r : Nat} {x : Rw} (ht : lk t T = some (.own r)) (hr0 : lk r R = some x) (hf : x.fz = false) (h : ∀ v0 : Value, v0.oneCell' = true → E cx ((t, atv r v0) :: T) B R K) : E cx T B R K := fun M V a w hr => h (V r) (by
  have h1 := hr.heap.row r x hr0
  rw [hf] at h1
  obtain ⟨xs, h2, _⟩ : Gx _ _ _ _ _ _ _ _ := h1
  rcases h2 with ⟨_, _, ⟨h3, _⟩ | ⟨g, cap, cur, h3, _⟩⟩ | ⟨_, g, es, c, h3, _⟩ <;> rw [h3] <;> rfl) M V a w ⟨hr.size, hr.defers, hr.heap, fun q z hz => by
  rcases lk_cons hz with ⟨rfl, rfl⟩ | ⟨_, hz⟩
  · exact ⟨hr.tmp t _ ht, rfl⟩
  · exact hr.tmp q z hz⟩
theorem e_req {K : Act → World → Prop} {r ty k n n' : Nat} {ds ds' : List Dat} {f : Bool} (hn : n = n') (hd : ds = ds') (h : E cx T B ((r, ⟨ty, k, n', ds', f⟩) :: R) K) : E cx T B ((r, ⟨ty, k, n, ds, f⟩) :: R) K := by
  subst hn
  subst hd
  exact h
end
def ddR : List Nat → RL → RL
  | _, [] => []
  | sn, (j, x) :: l => bif sn.any fun c => Nat.beq c j then ddR sn l else (j, x) :: ddR (j :: sn) l
theorem lk_ddR : ∀ (l : RL) (sn : List Nat) (b : Nat), b ∉ sn → lk b (ddR sn l) = lk b l
  | [], _, _, _ => rfl
  | (j, x) :: l, sn, b, hb => by
    unfold ddR
    cases h : sn.any fun c => Nat.beq c j with
    | true =>
      obtain ⟨c, hc, e⟩ := List.any_eq_true.1 h
      have e' : c = j := Nat.eq_of_beq_eq_true e
      have hj : j ≠ b := fun e2 => hb (by rw [← e2, ← e']; exact hc)
      rw [cond_true, lk_ddR l sn b hb, lk_cons_ne _ _ hj]
    | false =>
      rw [cond_false]
      by_cases e : j = b
      · subst e
        rw [lk_cons_eq, lk_cons_eq]
      · rw [lk_cons_ne _ _ e, lk_cons_ne _ _ e]
        exact lk_ddR l (j :: sn) b (by
          rintro (_ | ⟨_, h⟩)
          · exact e rfl
          · exact hb h)
section
variable {cx : Cx} {T : TL} {B : BL} {R R' : RL} {K : Act → World → Prop}
theorem Dc.lkR (h : ∀ b, lk b R = lk b R') (M : Nat → Nat) (V : Nat → Value) (w : World) : Dc cx B R M V w = Dc cx B R' M V w := by
  funext g
  unfold Dc
  simp only [h]
theorem e_lkR (h : ∀ b, lk b R = lk b R') (hE : E cx T B R' K) : E cx T B R K := fun M V a w hr => by
  have hD := Dc.lkR (cx := cx) (B := B) h M V w
  have hh := hr.heap
  refine hE M V a w ⟨hr.size, hr.defers, ⟨hh.below, hh.d0, hh.bl, hh.gl, fun b x hx => ?_, fun r x hx => ?_, fun r x g hx => hh.ro r x g (by rw [h]; exact hx), hh.pin, hh.bb, fun b r x y g hx hy => hh.br b r x y g hx (by rw [h]; exact hy), fun r q x y g hx hy => hh.rr r q x y g (by rw [h]; exact hx) (by rw [h]; exact hy)⟩, fun t x hx => ?_⟩
  · have := hh.box b x hx
    rwa [hD] at this
  · have := hh.row r x (by rw [h]; exact hx)
    rwa [hD] at this
  · have := hr.tmp t x hx
    rwa [hD] at this
theorem e_ddR (hE : E cx T B R K) : E cx T B (ddR [] R) K := e_lkR (fun b => lk_ddR R [] b (by simp)) hE
end
end Go.Proofs.Ytohhbpoifidbhaa
namespace Go.Proofs.Ytohhbpoifidbhaa
open Go.RowKit
variable {P : Program} {cx : Cx} {T : TL} {B : BL} {R : RL} {o : Oper} {ops : Array Oper} {Q : Exit → Act → World → Prop} {l : List Oper}
theorem made_cells {z : Value} {zs : List Value} (hz : z.cells.toList = zs) (n : Nat) : (madeCells z.cells (n * z.cells.size)).toList = (List.replicate n zs).flatten := by
  subst hz
  have h := zero_mod z.cells.toList n
  rw [Array.length_toList] at h
  rw [← h]
  unfold madeCells
  rfl
theorem e_mk (r : Nat) {d : Nat} {t ty : TypeId} {k n bytes : Nat} {x y : Operand} {kl kc : IntKind} {zs : List Value} {ds : List Dat} (hg : o.guard = none) (hd : o.dst = some d) (hn : Nat.blt d cx.n = true) (ho : o.op = .makeSlice t x y) (hx : Kn T x (.is (.int kl (n : Int)))) (hy : Kn T y (.is (.int kc (n : Int)))) (ht : P.underlying t = some (.slice ty)) (hz : (P.info? ty).map (fun i => (i.size, i.bytes, i.zero.map (·.cells.size))) = some (k, bytes, some k)) (hzs : zeroT P ty = some zs)
    (hb1 : n ≤ 140737488355328) (hb2 : bytes * n ≤ 140737488355328) (hds : (List.replicate n zs).flatten.map Dat.cell = ds) (hT : norT r T = true) (hB : norB r B = true) (hE : E cx ((d, .own r) :: T) B ((r, ⟨ty, k, n, ds, false⟩) :: R) (wpList P ops Q l)) (hty : Nat.blt ty 1000000 = true := by rfl) : E cx T B R (wpList P ops Q (o :: l)) := fun M V a w hrel => by
  subst hds
  refine wpList_plain hg fun K hK => ?_
  have hxv : a.eval x = .int kl (n : Int) := (hx w (Dc cx B R M V w) M V a fun t z _ hz => hrel.tmp t z hz).is_eq
  have hyv : a.eval y = .int kc (n : Int) := (hy w (Dc cx B R M V w) M V a fun t z _ hz => hrel.tmp t z hz).is_eq
  cases hi : P.info? ty with
  | none => simp [hi] at hz
  | some i =>
    simp only [hi, Option.map_some, Option.some.injEq, Prod.mk.injEq] at hz
    obtain ⟨h1, h2, h3⟩ := hz
    obtain ⟨z, hz0, hzk⟩ : ∃ z, i.zero = some z ∧ z.cells.size = k := by
      cases hz0 : i.zero with
      | none => simp [hz0] at h3
      | some z => exact ⟨z, rfl, by simpa [hz0] using h3⟩
    have hzc : z.cells.toList = zs := by simpa [zeroT, hi, hz0] using hzs
    have hbz : (i.bytes : Int) * (n : Int) ≤ 281474976710656 := by
      rw [h2, ← Int.natCast_mul]
      omega
    have hrun := run_make (P := P) w t ty i z ht hi hz0 kl kc (n : Int) (n : Int) (by omega) (by omega) hbz (by omega)
    simp only [Int.toNat_natCast] at hrun
    rw [h1, ← hzk] at hrun
    have hcl := made_cells hzc n
    have hlen : (List.replicate n zs).flatten.length = n * k := by
      rw [← hcl, Array.length_toList, size_madeCells, hzk]
    have hb : Below w.heap.size w (w.alloc (.cells (madeCells z.cells (n * z.cells.size)) ty)) := (Below.refl _ _).alloc (Nat.le_refl _) _
    have hown : (w.alloc (.cells (madeCells z.cells (n * z.cells.size)) ty)).ownsRow w.heap.size ty k (.slice (some ⟨w.heap.size, 0, none⟩) n n) n (List.replicate n zs).flatten :=
      ⟨hlen, .inr ⟨w.heap.size, n, _, rfl, Nat.le_refl _, heap_alloc_new w _, Nat.le_refl _, by simp only [maxLen]; omega, by rw [size_madeCells, hzk], by rw [hcl, ← hlen, List.take_length]⟩⟩
    obtain ⟨V', hVr, hr0⟩ := hrel.own_new hb hown r hT hB hty
    have := hK _ _ (hE M V' _ _ (hr0.put (Below.refl _ _) (blt_lt hn) hVr.symm))
    unfold Oper.wp execOp
    simp only [ho, hxv, hyv, Sem.run_bind, hrun]
    simp only [Oper.upon, hd]
    exact this
theorem e_rowf {K : Act → World → Prop} (r : Nat) {ty : TypeId} {k n : Nat} {ds es : List Dat} (hr : lk r R = some ⟨ty, k, n, ds, false⟩) (hi : ∀ M V a w, Rel cx T B R M V a w → ∀ xs, Fits w (Dc cx B R M V w) ds xs → Fits w (Dc cx B R M V w) es xs) (h : E cx T B ((r, ⟨ty, k, n, es, false⟩) :: R) K) : E cx T B R K := fun M V a w hrel => by
  have hh := hrel.heap
  have hlkR : ∀ q x, lk q ((r, (⟨ty, k, n, es, false⟩ : Rw)) :: R) = some x → ∃ y, lk q R = some y ∧ y.fz = x.fz := fun q x hx => by
    rcases lk_cons hx with ⟨rfl, rfl⟩ | ⟨_, hx⟩
    · exact ⟨_, hr, rfl⟩
    · exact ⟨x, hx, rfl⟩
  have hD : ∀ g, Dc cx B R M V w g → Dc cx B ((r, ⟨ty, k, n, es, false⟩) :: R) M V w g := fun g hg => by
    rcases hg with hg | ⟨a1, a2, a3, a4⟩
    · exact .inl hg
    · refine .inr ⟨a1, a2, a3, fun q x hx hf => ?_⟩
      obtain ⟨y, hy, hf'⟩ := hlkR q x hx
      exact a4 q y hy (hf'.trans hf)
  have hk := Keeps.refl (Dc cx B R M V w) w
  refine h M V a w ⟨hrel.size, hrel.defers, ⟨hh.below, hh.d0, hh.bl, hh.gl, fun c x hx => ?_, fun q x hx => ?_, fun q x g hx hf hg => ?_, hh.pin, hh.bb, fun c q x y g hx hy hf hg => ?_, fun q p x y g hx hy hf hf' hg hg' => ?_⟩, fun t x hx => (hrel.tmp t x hx).stay hk hD⟩
  · obtain ⟨a1, cs, a2, a3⟩ := hh.box c x hx
    exact ⟨a1, cs, a2, a3.stay hk hD⟩
  · rcases lk_cons hx with ⟨rfl, rfl⟩ | ⟨hne, hx⟩
    · have h1 := hh.row r _ hr
      obtain ⟨xs, a2, a3⟩ : Gx w (Dc cx B R M V w) 0 ty k (V r) n ds := h1
      exact (⟨xs, a2, (hi M V a w hrel xs a3).stay hk hD⟩ : Gx _ _ _ _ _ _ _ _)
    · have h1 := hh.row q x hx
      split
      · rename_i hf
        rw [if_pos hf] at h1
        exact h1.stay hk hD
      · rename_i hf
        rw [if_neg hf] at h1
        obtain ⟨ys, a2, a3⟩ := h1
        exact ⟨ys, a2, a3.stay hk hD⟩
  · obtain ⟨y, hy, hf'⟩ := hlkR q x hx
    exact hh.ro q y g hy (hf'.trans hf) hg
  · obtain ⟨y', hy', hf'⟩ := hlkR q y hy
    exact hh.br c q x y' g hx hy' (hf'.trans hf) hg
  · obtain ⟨x', hx', hfx'⟩ := hlkR q x hx
    obtain ⟨y', hy', hfy'⟩ := hlkR p y hy
    exact hh.rr q p x' y' g hx' hy' (hfx'.trans hf) (hfy'.trans hf') hg hg'
theorem fits_set {w : World} {D : Nat → Prop} {ds : List Dat} {xs : List Value} (h : Fits w D ds xs) {j : Nat} {d : Dat} (hj : ∀ v, xs[j]? = some v → Lies w D d v) : Fits w D (ds.set j d) xs := by
  refine ⟨by simp [h.1], fun i e v he hv => ?_⟩
  rw [List.getElem?_set] at he
  split at he
  · rename_i hji
    subst hji
    split at he
    · obtain rfl := Option.some.inj he
      exact hj v hv
    · cases he
  · exact h.2 i e v he hv
theorem e_hang {K : Act → World → Prop} (j : Nat) {s r q ty k n : Nat} {v0 : Value} {y : Rw} {ds es : List Dat} (hp : lk s T = some (pinv q v0)) (hr : lk r R = some ⟨ty, k, n, ds, false⟩) (hq : lk q R = some y) (hf : y.fz = true) (hj : ds[j]? = some (.cell v0)) (hes : ds.set j (datOf y) = es) (h : E cx T B ((r, ⟨ty, k, n, es, false⟩) :: R) K) : E cx T B R K := by
  subst hes
  refine e_rowf r hr (fun M V a w hrel xs hx => fits_set hx fun v hv => ?_) h
  have h1 : V q = v0 := hrel.tmp s _ hp
  have h2 := hrel.heap.row q y hq
  rw [if_pos hf, h1] at h2
  rw [(hx.2 j _ v hj hv).cell_eq]
  exact h2
theorem e_freeze {K : Act → World → Prop} (r : Nat) {y : Rw} (hy : lk r R = some y) (hf : y.fz = false) (h : E cx T B ((r, ⟨y.ty, y.k, y.n, y.ds, true⟩) :: R) K) : E cx T B R K := fun M V a w hr => h M V a w (hr.freeze r hy hf)
theorem e_via_store1 {x y : Operand} {st : TypeId} {r ty k n j : Nat} {ds ds' : List Dat} {d : Dat} (hg : o.guard = none) (hd : o.dst = none) (ho : o.op = .store st x y) (hx : Kn T x (.via r (AtV j))) (hr : lk r R = some ⟨ty, k, n, ds, false⟩) (hy : Kn T y (.part (.one d))) (h1 : d.isOne = true) (hj : j < ds.length) (hs : sizeT P st = some 1) (hds : ds.set j d = ds')
    (hE : E cx T B ((r, ⟨ty, k, n, ds', false⟩) :: R) (wpList P ops Q l)) (hty : Nat.blt ty 1000000 = true := by rfl) : E cx T B R (wpList P ops Q (o :: l)) := fun M V a w hrel => by
  subst hds
  obtain ⟨g, n', c, hVr, hxv⟩ : AtV j (V r) (a.eval x) := hx w (Dc cx B R M V w) M V a fun t z _ hz => hrel.tmp t z hz
  have hyv : Lies w (Dc cx B R M V w) d (a.eval y) := hy w (Dc cx B R M V w) M V a fun t z _ hz => hrel.tmp t z hz
  have hone := hyv.one h1
  obtain ⟨w', hst, hrel'⟩ := HR.own_store (P := P) hrel hr hVr (es := [d]) (us := [a.eval y]) (j := j) (by simp only [List.length_singleton]; omega) (by simp) (Fits.cons hyv (Fits.nil _ _)) (fun u hu => by rw [List.mem_singleton.1 hu]; exact hone) hty
  rw [show ds.take j ++ [d] ++ ds.drop (j + [d].length) = ds.set j d by rw [List.set_eq_take_append_cons_drop, if_pos hj]; simp] at hrel'
  refine wpList_plain hg fun K hK => ?_
  have := hK _ _ (hE M V _ _ hrel')
  have hsz := run_sizeT hs (w := w)
  have hccl : (a.eval y).cells = #[a.eval y] := by
    revert hone
    cases a.eval y <;> intro h <;> first | rfl | cases h
  unfold Oper.wp execOp
  simp only [ho, hxv, Instr.storeAt, Instr.sureAddr, Sem.run_bind, Sem.run_pure, Result.andThen_ok]
  simp [storeVar, hsz, hccl, hst, Oper.upon, hd, Act.put]
  exact this
abbrev vpin (r : Nat) (v0 v : Value) : IV := .via r fun a u => u = v ∧ a = v0
theorem atv_own (r : Nat) (v0 : Value) : Imp (atv r v0) (.own r) := fun _ _ _ _ _ h => h.1
theorem e_reatv {K : Act → World → Prop} {t s r : Nat} {v0 : Value} (ht : lk t T = some (.is v0)) (hp : lk s T = some (pinv r v0)) (h : E cx ((t, atv r v0) :: T) B R K) : E cx T B R K := fun M V a w hr => h M V a w ⟨hr.size, hr.defers, hr.heap, fun q z hz => by
  rcases lk_cons hz with ⟨rfl, rfl⟩ | ⟨_, hz⟩
  · exact (hr.tmp t _ ht).atv_of (hr.tmp s _ hp)
  · exact hr.tmp q z hz⟩
theorem e_vpin {K : Act → World → Prop} {t s r : Nat} {v v0 : Value} (ht : lk t T = some (.is v)) (hp : lk s T = some (pinv r v0)) (h : E cx ((t, vpin r v0 v) :: T) B R K) : E cx T B R K := fun M V a w hr => h M V a w ⟨hr.size, hr.defers, hr.heap, fun q z hz => by
  rcases lk_cons hz with ⟨rfl, rfl⟩ | ⟨_, hz⟩
  · exact ⟨Lies.cell_eq (hr.tmp t _ ht), hr.tmp s _ hp⟩
  · exact hr.tmp q z hz⟩
theorem e_unvpin {K : Act → World → Prop} (s : Nat) {t r : Nat} {v v0 : Value} (ht : lk t T = some (vpin r v0 v)) (h : E cx ((t, .is v) :: (s, pinv r v0) :: T) B R K) : E cx T B R K := fun M V a w hr => h M V a w ⟨hr.size, hr.defers, hr.heap, fun q z hz => by
  have h1 : a.tmps.getD t undef = v ∧ V r = v0 := hr.tmp t _ ht
  rcases lk_cons hz with ⟨rfl, rfl⟩ | ⟨_, hz⟩
  · show Lies _ _ (.cell v) _
    rw [h1.1]
    exact .cell v
  · rcases lk_cons hz with ⟨rfl, rfl⟩ | ⟨_, hz⟩
    · exact h1.2
    · exact hr.tmp q z hz⟩
theorem e_return_iv {fn : Func} {Y : IV → BL → RL → Prop} {t : Nat} {y : IV} (B1 : BL) (R1 : RL) (hrs : fn.results = #[.tmp t]) (ht : lk t T = some y) (hB : SubB B B1) (hR : SubR R R1) (hY : Y y B1 R1) : E cx T B R (bodyPost P fn (GivesX cx Y) .ret) := fun M V a w hr => by
  have h3 := hr.sub (T' := [(t, y)]) ⟨sub_refl _ ht, trivial⟩ hB hR
  refine ⟨hr.defers, a.tmps.getD t undef, ?_, _, y, B1, R1, M, V, rfl, hY, h3.heap, h3.tmp t y (lk_cons_eq _ _ _)⟩
  have e : results fn a.tmps = (do let vs ← fn.results.mapM (rvRun a.tmps); pure (if h : vs.size = 1 then vs[0] else .tuple vs)) := by
    unfold results
    congr 1
  rw [e, hrs]
  simp [rvRun]
theorem e_callw {d : Nat} {f : FuncId} {xs : List Operand} {ts : Array TypeId} {ys : List IV} {B0 : BL} {R0 : RL} {Y : IV → BL → RL → Prop} (hg : o.guard = none) (hd : o.dst = some d) (hn : Nat.blt d cx.n = true) (ho : o.op = .call { callee := .value (.func f), args := xs.toArray, argTypes := ts }) (hc : callable P f = true)
    (hf : EG P cx.gl f ys B0 R0 Y) (hB : LentB B B0) (hR : LentR R R0) (hx : ∀ (w : World) (D : Nat → Prop) (M : Nat → Nat) (V : Nat → Value) (a : Act), (∀ t z, lk t T = some z → VR w D M V z (a.tmps.getD t undef)) → VRs w D M V ys (xs.map a.eval)) (hY : ∀ y B1 R1, Y y B1 R1 → Tidy B0 R0 y B1 R1)
    (hE : ∀ y B1 R1, Y y B1 R1 → E cx ((d, y) :: killTL (names R0) T) (B1 ++ killBL (names R0) B) (R1 ++ R) (wpList P ops Q l)) : E cx T B R (wpList P ops Q (o :: l)) := fun M V a w hr => by
  refine wpList_plain hg fun K hK => ?_
  have hrun : (execOp a.eval o).run P w = .ok (.enter f (xs.map a.eval).toArray) w := by
    have he : a.eval (.func f) = .func (.func f) #[] #[] := rfl
    simp [execOp, ho, resolve, he, Deferred.ofValue, invoke, run_callable hc]
  unfold Oper.wp
  rw [hrun]
  simp only [Oper.upon, hd]
  exact (calls_back (ρ := fun b => b) (σ := fun r => r) hr (LentI.lent ⟨fun _ _ h => hB.get h, fun _ _ h => hR.get h⟩) (by rw [ivs_ren_id]; exact hx w (Dc cx B R M V w) M V a fun t z hz => hr.tmp t z hz) hf hY (blt_lt hn)).mono fun e w' ⟨v, y, B1, R1, V', h1, h2, h3⟩ => by
    subst h1
    rw [IV.ren_id, renB_id, renR_id, List.map_id'] at h3
    exact hK _ _ (hE y B1 R1 h2 M V' _ _ h3)
end Go.Proofs.Ytohhbpoifidbhaa
namespace Go.Proofs.Ytohhbpoifidbhaa
abbrev Tx : Type := List UInt8
def pos (s : Tx) : List Tx → Nat
  | [] => 0
  | x :: l => if x = s then 0 else pos s l + 1
theorem pos_le (s : Tx) : ∀ l : List Tx, pos s l ≤ l.length
  | [] => Nat.le_refl _
  | x :: l => by
    have := pos_le s l
    unfold pos
    split
    · omega
    · simp only [List.length_cons]; omega
theorem pos_get (s : Tx) : ∀ (l : List Tx) (k : Nat) (x : Tx), l[k]? = some x → k ≤ pos s l → (x = s ↔ k = pos s l)
  | [], k, x, h, _ => by simp at h
  | y :: l, 0, x, h, _ => by
    obtain rfl : y = x := by simpa using h
    unfold pos
    by_cases h1 : y = s
    · rw [if_pos h1]
      exact ⟨fun _ => rfl, fun _ => h1⟩
    · rw [if_neg h1]
      exact ⟨fun h => absurd h h1, fun h => by omega⟩
  | y :: l, k + 1, x, h, hk => by
    have h' : l[k]? = some x := by simpa using h
    by_cases h1 : y = s
    · rw [pos, if_pos h1] at hk
      omega
    · rw [pos, if_neg h1] at hk ⊢
      rw [pos_get s l k x h' (by omega)]
      omega
def know (l : List Tx) (s : Tx) : List Tx := if pos s l < l.length then l else l ++ [s]
def knowL (l : List Tx) : List Tx → List Tx
  | [] => l
  | s :: m => knowL (know l s) m
def nums (l : List Tx) : List Tx → List Nat
  | [] => []
  | s :: m => pos s l :: nums (know l s) m
def knowA (l : List Tx) : List (List Tx) → List Tx
  | [] => l
  | m :: r => knowA (knowL l m) r
def numA (l : List Tx) : List (List Tx) → List (List Nat)
  | [] => []
  | m :: r => nums l m :: numA (knowL l m) r
theorem knowL_snoc (m : List Tx) (s : Tx) : ∀ l, knowL l (m ++ [s]) = know (knowL l m) s := by
  induction m with
  | nil => intro l; rfl
  | cons x m ih => intro l; exact ih (know l x)
theorem nums_snoc (m : List Tx) (s : Tx) : ∀ l, nums l (m ++ [s]) = nums l m ++ [pos s (knowL l m)] := by
  induction m with
  | nil => intro l; rfl
  | cons x m ih => intro l; exact congrArg (pos x l :: ·) (ih (know l x))
theorem nums_len (m : List Tx) : ∀ l, (nums l m).length = m.length := by
  induction m with
  | nil => intro l; rfl
  | cons x m ih => intro l; exact congrArg (· + 1) (ih (know l x))
theorem knowA_snoc (r : List (List Tx)) (m : List Tx) : ∀ l, knowA l (r ++ [m]) = knowL (knowA l r) m := by
  induction r with
  | nil => intro l; rfl
  | cons x r ih => intro l; exact ih (knowL l x)
theorem numA_snoc (r : List (List Tx)) (m : List Tx) : ∀ l, numA l (r ++ [m]) = numA l r ++ [nums (knowA l r) m] := by
  induction r with
  | nil => intro l; rfl
  | cons x r ih => intro l; exact congrArg (nums l x :: ·) (ih (knowL l x))
theorem numA_len (r : List (List Tx)) : ∀ l, (numA l r).length = r.length := by
  induction r with
  | nil => intro l; rfl
  | cons x r ih => intro l; exact congrArg (· + 1) (ih (knowL l x))
theorem know_len (l : List Tx) (s : Tx) : (know l s).length ≤ l.length + 1 := by
  unfold know
  split
  · omega
  · simp
theorem knowL_len (m : List Tx) : ∀ l, (knowL l m).length ≤ l.length + m.length := by
  induction m with
  | nil => intro l; simp [knowL]
  | cons x m ih =>
    intro l
    have h1 := ih (know l x)
    have h2 := know_len l x
    simp only [knowL, List.length_cons]
    omega
theorem take_snoc {α : Type} {l : List α} {k : Nat} {x : α} (h : l[k]? = some x) : l.take (k + 1) = l.take k ++ [x] := by
  rw [List.take_add_one, h]
  rfl
def unl (s : List Tx) : List Tx → Bool
  | [] => true
  | x :: l => if pos x s < s.length then false else unl (s ++ [x]) l
def nmap : Nat → List Tx → List (Tx × Dat)
  | _, [] => []
  | k, x :: l => (x, .cell (.int .i64 (k : Int))) :: nmap (k + 1) l
theorem nmap_len : ∀ (l : List Tx) (k : Nat), (nmap k l).length = l.length
  | [], _ => rfl
  | x :: l, k => congrArg (· + 1) (nmap_len l (k + 1))
theorem nmap_get (s : Tx) : ∀ (l : List Tx) (k : Nat), mget s (nmap k l) = if pos s l < l.length then some (.cell (.int .i64 ((k + pos s l : Nat) : Int))) else none
  | [], k => rfl
  | x :: l, k => by
    unfold nmap mget pos
    by_cases h : x = s
    · rw [if_pos h.symm, if_pos h, if_pos (by simp)]
      rfl
    · rw [if_neg (Ne.symm h), if_neg h, nmap_get s l (k + 1)]
      by_cases h1 : pos s l < l.length
      · rw [if_pos h1, if_pos (by simpa using h1)]
        rw [show k + 1 + pos s l = k + (pos s l + 1) by omega]
      · rw [if_neg h1, if_neg (by simpa using h1)]
theorem mset_new {s : Tx} {d : Dat} : ∀ {ps : List (Tx × Dat)}, mget s ps = none → mset s d ps = ps ++ [(s, d)]
  | [], _ => rfl
  | p :: ps, h => by
    unfold mget at h
    split at h
    · cases h
    · rename_i hn
      unfold mset
      rw [if_neg hn, mset_new h]
      rfl
theorem nmap_snoc (s : Tx) : ∀ (l : List Tx) (k : Nat), nmap k (l ++ [s]) = nmap k l ++ [(s, .cell (.int .i64 ((k + l.length : Nat) : Int)))]
  | [], k => rfl
  | x :: l, k => by
    show _ :: nmap (k + 1) (l ++ [s]) = _ :: (nmap (k + 1) l ++ _)
    rw [nmap_snoc s l (k + 1), List.length_cons, show k + 1 + l.length = k + (l.length + 1) by omega]
def smap (l : List Tx) : List (Tx × Dat) := l.map fun x => (x, .cell (.bool true))
theorem smap_get (s : Tx) : ∀ l : List Tx, mget s (smap l) = if pos s l < l.length then some (.cell (.bool true)) else none
  | [] => rfl
  | x :: l => by
    show mget s ((x, Dat.cell (.bool true)) :: smap l) = _
    unfold mget pos
    by_cases h : x = s
    · rw [if_pos h.symm, if_pos h, if_pos (by simp)]
    · rw [if_neg (Ne.symm h), if_neg h, smap_get s l]
      by_cases h1 : pos s l < l.length
      · rw [if_pos h1, if_pos (by simpa using h1)]
      · rw [if_neg h1, if_neg (by simpa using h1)]
theorem smap_snoc (s : Tx) (l : List Tx) : smap (l ++ [s]) = smap l ++ [(s, .cell (.bool true))] := by simp [smap]
end Go.Proofs.Ytohhbpoifidbhaa
