/- Part 14 of what the last text of this claim is proved by: walks over the program, and the math behind them. Conditions: as each theorem says. -/
import Derived.Test.YtlikbiiimhfnkaaVT13
import Derived.Test.YtlikbiiimhfnkaaProg
namespace Go.Proofs.Ytlikbiiimhfnkaa
open Go.RowKit
theorem Cap.ren_id (c : Cap) : c.ren (fun b => b) = c := by cases c <;> rfl
theorem caps_ren_id (l : List Cap) : l.map (Cap.ren fun b => b) = l := by
  induction l with
  | nil => rfl
  | cons c l ih => rw [List.map_cons, ih, Cap.ren_id]
theorem IV.ren_id (x : IV) : x.ren (fun b => b) (fun r => r) = x := by
  induction x with
  | opt g x ih => unfold IV.ren; rw [ih]
  | clo fn fs cs => unfold IV.ren; rw [caps_ren_id, caps_ren_id]
  | _ => rfl
theorem ivs_ren_id (l : List IV) : l.map (·.ren (fun b => b) (fun r => r)) = l := by
  induction l with
  | nil => rfl
  | cons c l ih => rw [List.map_cons, ih, IV.ren_id]
theorem renB_id (B : BL) : renB (fun b => b) (fun r => r) B = B := by
  unfold renB
  induction B with
  | nil => rfl
  | cons x B ih => rw [List.map_cons, ih, ivs_ren_id]
theorem renR_id (R : RL) : renR (fun r => r) R = R := by
  unfold renR
  induction R with
  | nil => rfl
  | cons x B ih => rw [List.map_cons, ih]
def LentI (B : BL) (R : RL) (B0 : BL) (R0 : RL) : Prop := (∀ b x, lk b B0 = some x → lk b B = some x) ∧ ∀ r x, lk r R0 = some x → lk r R = some x
theorem LentI.lent {B : BL} {R : RL} {B0 : BL} {R0 : RL} (h : LentI B R B0 R0) : Lent B R (fun b => b) (fun r => r) B0 R0 := ⟨fun b x hx => by rw [ivs_ren_id]; exact h.1 b x hx, h.2, fun _ _ _ _ e => e, fun _ _ _ _ e => e⟩
def LentB (B : BL) : BL → Prop
  | [] => True
  | (b, x) :: l => lk b B = some x ∧ LentB B l
def LentR (R : RL) : RL → Prop
  | [] => True
  | (r, x) :: l => lk r R = some x ∧ LentR R l
theorem LentB.get {B : BL} : ∀ {B0 : BL} (_ : LentB B B0) {b : Nat} {x : Bx}, lk b B0 = some x → lk b B = some x
  | (c, y) :: l, h, b, x, hx => by
    rcases lk_cons hx with ⟨rfl, rfl⟩ | ⟨_, hx⟩
    · exact h.1
    · exact LentB.get h.2 hx
  | [], _, _, _, hx => by cases hx
theorem LentR.get {R : RL} : ∀ {R0 : RL} (_ : LentR R R0) {b : Nat} {x : Rw}, lk b R0 = some x → lk b R = some x
  | (c, y) :: l, h, b, x, hx => by
    rcases lk_cons hx with ⟨rfl, rfl⟩ | ⟨_, hx⟩
    · exact h.1
    · exact LentR.get h.2 hx
  | [], _, _, _, hx => by cases hx
section
variable {P : Program} {cx : Cx} {T : TL} {B : BL} {R : RL} {o : Oper}
def Tidy (B0 : BL) (R0 : RL) (y : IV) (B1 : BL) (R1 : RL) : Prop := names B1 = names B0 ∧ names R1 = names R0 ∧ binB (names B0) (names R0) B1 = true ∧ y.bin (names B0) (names R0) = true
theorem e_calli {ops : Array Oper} {Q : Exit → Act → World → Prop} {l : List Oper} {d : Nat} {f : FuncId} {xs : List Operand} {ts : Array TypeId} {ys : List IV} {B0 : BL} {R0 : RL} {Y : IV → BL → RL → Prop} (hg : o.guard = none) (hd : o.dst = some d) (hn : Nat.blt d cx.n = true) (ho : o.op = .call { callee := .value (.func f), args := xs.toArray, argTypes := ts }) (hc : callable P f = true)
    (hf : EG P cx.gl f ys B0 R0 Y) (hB : LentB B B0) (hR : LentR R R0) (hx : KnX T xs ys) (hY : ∀ y B1 R1, Y y B1 R1 → Tidy B0 R0 y B1 R1)
    (hE : ∀ y B1 R1, Y y B1 R1 → E cx ((d, y) :: killTL (names R0) T) (B1 ++ killBL (names R0) B) (R1 ++ R) (wpList P ops Q l)) : E cx T B R (wpList P ops Q (o :: l)) :=
  e_callx (fun b => b) (fun r => r) hg hd hn ho hc (LentI.lent ⟨fun _ _ h => hB.get h, fun _ _ h => hR.get h⟩) (by rw [ivs_ren_id]; exact hx) hf hY fun y B1 R1 hy => by
    rw [IV.ren_id, renB_id, renR_id, List.map_id']
    exact hE y B1 R1 hy
theorem e_callci {ops : Array Oper} {Q : Exit → Act → World → Prop} {l : List Oper} {d : Nat} {f : FuncId} {x : Operand} {xs : List Operand} {ts : Array TypeId} {fs cs : List Cap} {zs ys : List IV} {B0 : BL} {R0 : RL} {Y : IV → BL → RL → Prop} (hg : o.guard = none) (hd : o.dst = some d) (hn : Nat.blt d cx.n = true) (ho : o.op = .call { callee := .value x, args := xs.toArray, argTypes := ts }) (hc : callable P f = true)
    (hf : EG P cx.gl f ys B0 R0 Y) (hB : LentB B B0) (hR : LentR R R0) (hx : Kn T x (.clo (.func f) fs cs)) (hxs : KnX T xs zs) (hys : ys = fs.map Cap.iv ++ zs ++ cs.map Cap.iv) (hY : ∀ y B1 R1, Y y B1 R1 → Tidy B0 R0 y B1 R1)
    (hE : ∀ y B1 R1, Y y B1 R1 → E cx ((d, y) :: killTL (names R0) T) (B1 ++ killBL (names R0) B) (R1 ++ R) (wpList P ops Q l)) : E cx T B R (wpList P ops Q (o :: l)) :=
  e_callc (fun b => b) (fun r => r) hg hd hn ho hc (LentI.lent ⟨fun _ _ h => hB.get h, fun _ _ h => hR.get h⟩) hx hxs (by rw [ivs_ren_id]; exact hys) hf hY fun y B1 R1 hy => by
    rw [IV.ren_id, renB_id, renR_id, List.map_id']
    exact hE y B1 R1 hy
theorem fits_cells (w : World) (D : Nat → Prop) (cs : List Value) : Fits w D (cs.map .cell) cs := by
  induction cs with
  | nil => exact Fits.nil _ _
  | cons c cs ih => exact .cons (.cell c) ih
end
end Go.Proofs.Ytlikbiiimhfnkaa
namespace Go.Proofs.Ytlikbiiimhfnkaa
open Go.RowKit
def off (d : Nat) : TL → TL
  | [] => []
  | (j, x) :: l => bif Nat.beq j d then off d l else (j, x) :: off d l
section
variable {P : Program} {cx : Cx} {T T' T2 : TL} {B : BL} {R : RL}
end
end Go.Proofs.Ytlikbiiimhfnkaa
namespace Go.Proofs.Ytlikbiiimhfnkaa
open Go.RowKit
section
variable {P : Program} {cx : Cx} {T : TL} {B : BL} {R : RL} {o : Oper}
def fieldT (P : Program) (t : TypeId) (f : Nat) : Option (TypeId × Nat) :=
  match P.underlying t with
  | some (.struct fs) => (fs[f]?).map fun g => (g.type, g.offset)
  | _ => none
end
end Go.Proofs.Ytlikbiiimhfnkaa
namespace Go.Proofs.Ytlikbiiimhfnkaa
open Go.RowKit
section
variable {P : Program} {cx : Cx} {T : TL} {B : BL} {R : RL}
theorem wp_then {o : Oper} {a : Act} {w : World} {K : Act → World → Prop} {Q : Exit → Act → World → Prop} (h : o.wp P a w K (Exit.then K Q)) : o.wp P a w K Q := by
  unfold Oper.wp at *
  generalize (execOp a.eval o).run P w = r at *
  cases r with
  | ok n w' =>
    cases n <;> simp only [Oper.upon] at h ⊢ <;> first | exact h | exact Calls.mono h (fun e w'' he => by cases e <;> exact he) | exact Rows.mono h (fun _ _ he => he)
  | halt x w' => cases x <;> simp only [Oper.upon] at h ⊢ <;> exact h
theorem op_of_list {ops : Array Oper} {Q : Exit → Act → World → Prop} {K : Act → World → Prop} {o : Oper} {i : Nat} {a : Act} {w : World} (hi : ops[i]? = some o) (hl : LetsOut (Exit.then K Q) → LetsOut Q) (h : wpList P ops (Exit.then K Q) [o] a w) : wpOp P ops Q i K a w := by
  unfold wpOp
  simp only [hi]
  simp only [wpList] at h
  split
  · rename_i hw
    rw [if_pos hw] at h
    exact h.imp (fun h => wp_then h) (fun h => ⟨h.1, hl h.2⟩)
  · rename_i hw
    rw [if_neg hw] at h
    exact h
end
end Go.Proofs.Ytlikbiiimhfnkaa
namespace Go.Proofs.Ytlikbiiimhfnkaa
open Go.RowKit
section
variable {P : Program} {cx : Cx} {T : TL} {B : BL} {R : RL}
def LentBr (ρ σ : Nat → Nat) (B : BL) : BL → Prop
  | [] => True
  | (b, x) :: l => lk (ρ b) B = some ⟨x.ty, x.cs.map (·.ren ρ σ)⟩ ∧ LentBr ρ σ B l
def LentRr (σ : Nat → Nat) (R : RL) : RL → Prop
  | [] => True
  | (r, x) :: l => lk (σ r) R = some x ∧ LentRr σ R l
theorem LentBr.get {ρ σ : Nat → Nat} : ∀ {B0 : BL} (_ : LentBr ρ σ B B0) {b : Nat} {x : Bx}, lk b B0 = some x → lk (ρ b) B = some ⟨x.ty, x.cs.map (·.ren ρ σ)⟩
  | (c, y) :: l, h, b, x, hx => by
    rcases lk_cons hx with ⟨rfl, rfl⟩ | ⟨_, hx⟩
    · exact h.1
    · exact LentBr.get h.2 hx
  | [], _, _, _, hx => by cases hx
theorem LentRr.get {σ : Nat → Nat} : ∀ {R0 : RL} (_ : LentRr σ R R0) {b : Nat} {x : Rw}, lk b R0 = some x → lk (σ b) R = some x
  | (c, y) :: l, h, b, x, hx => by
    rcases lk_cons hx with ⟨rfl, rfl⟩ | ⟨_, hx⟩
    · exact h.1
    · exact LentRr.get h.2 hx
  | [], _, _, _, hx => by cases hx
end
end Go.Proofs.Ytlikbiiimhfnkaa
namespace Go.Proofs.Ytlikbiiimhfnkaa
open Go.RowKit
section
variable {P : Program} {cx : Cx} {T : TL} {B : BL} {R : RL} {M : Nat → Nat} {V : Nat → Value} {o : Oper}
theorem EFx.more {gls gls' : List (Nat × List Value)} {f : FuncId} {ps : List Part} {Y : IV → Prop} (h : EFx P gls f ps Y) (hs : ∀ x, x ∈ gls → x ∈ gls') : EFx P gls' f ps Y := fun w D vs hD hG hp => h w D vs hD (fun g cs hg => hG g cs (hs _ hg)) hp
end
end Go.Proofs.Ytlikbiiimhfnkaa
namespace Go.Proofs.Ytlikbiiimhfnkaa
open Go.RowKit
section
variable {P : Program} {cx : Cx} {T : TL} {B : BL} {R : RL} {o : Oper}
theorem s_callf {f : FuncId} {x : Operand} {xs : List Operand} {ts : Array TypeId} {ps : List Part} {y : IV} (ho : o.op = .call { callee := .value x, args := xs.toArray, argTypes := ts }) (hc : callable P f = true) (hxf : Kn T x (.is (.func (.func f) #[] #[]))) (hf : EF P cx.gl f ps y) (hx : KnA T xs ps) : LStep P cx B R o T y := fun M V w a hh ht => by
  have hkk : ∀ y z, y ∈ x :: xs → Kn T y z → VR w (Dc cx B R M V w) M V z (a.eval y) := fun y z hm hkx => hkx w _ M V a fun t z' e hz => ht t z' (by
    subst e
    rw [ho]
    simpa [Op.operands, Call.operands] using hm) hz
  have he : a.eval x = .func (.func f) #[] #[] := (hkk x _ (by simp) hxf).is_eq
  have hrun : (execOp a.eval o).run P w = .ok (.enter f (xs.map a.eval).toArray) w := by
    simp [execOp, ho, resolve, he, Deferred.ofValue, invoke, run_callable hc]
  rw [hrun]
  refine ⟨rfl, (calls_at hh (fun x z hm hkx => hkk x z (by simp [hm]) hkx) hx hf).mono fun _ _ ⟨v, y', h1, h2, h3, h4⟩ => ⟨v, h1, h3, h2 ▸ h4⟩⟩
end
end Go.Proofs.Ytlikbiiimhfnkaa
namespace Go.Proofs.Ytlikbiiimhfnkaa
open Go.RowKit
section
variable {P : Program} {cx : Cx} {T : TL} {B : BL} {R : RL} {M : Nat → Nat} {V : Nat → Value}
theorem Rel.own_new {a : Act} {w w' : World} (hrel : Rel cx T B R M V a w) (hb : Below w.heap.size w w') {ty k n : Nat} {v : Value} {cs : List Value} (hown : w'.ownsRow w.heap.size ty k v n cs) (r : Nat) (hT : norT r T = true) (hB : norB r B = true) : ∃ V', V' r = v ∧ Rel cx T B ((r, ⟨ty, k, n, cs.map .cell, false⟩) :: R) M V' a w' := by
  have hh := hrel.heap
  have hsz := hh.below.size
  let V' : Nat → Value := fun q => if q = r then v else V q
  have hVr : V' r = v := if_pos rfl
  have hV : ∀ q, q ≠ r → V' q = V q := fun q h => if_neg h
  have hlt : ∀ g, v.ownBlock = some g → w.heap.size ≤ g ∧ g < w'.heap.size := fun g hg => hown.lt g hg
  have hown0 : w'.ownsRow 0 ty k v n cs := by
    refine ⟨hown.1, ?_⟩
    rcases hown.2 with h | ⟨g, cap, cur, h1, _, h3⟩
    · exact .inl h
    · exact .inr ⟨g, cap, cur, h1, Nat.zero_le _, h3⟩
  have hold : ∀ q x g, lk q R = some x → x.fz = false → (V q).ownBlock = some g → g < w.heap.size := fun q x g hx hf hg => by
    have h1 := hh.row q x hx
    rw [hf] at h1
    obtain ⟨ys, a2, _⟩ := h1
    exact (a2.lt g hg).2
  have hoB : ∀ b x, lk b B = some x → M b < w.heap.size := fun b x hx => by
    obtain ⟨_, cs, h2, _⟩ := hh.box b x hx
    exact h2.lt
  have hk := hh.keeps hb
  have hD : ∀ g, Dc cx B R M V w g → Dc cx B ((r, ⟨ty, k, n, cs.map .cell, false⟩) :: R) M V' w' g := fun g hg => by
    have hgl := hh.dlt hg
    rcases hg with hg | ⟨a1, a2, a3, a4⟩
    · exact .inl hg
    · refine .inr ⟨a1, by have := hb.size; omega, a3, fun q x hx hf e => ?_⟩
      rcases lk_cons hx with ⟨rfl, _⟩ | ⟨hne, hx⟩
      · rw [hVr] at e
        have := (hlt g e).1
        omega
      · rw [hV q (Ne.symm hne)] at e
        exact a4 q x hx hf e
  refine ⟨V', hVr, hrel.size, hrel.defers, ⟨hh.below.step hb, hh.d0, hh.bl, hh.gl, fun b x hx => ?_, fun q x hx => ?_, fun q x g hx hf hg => ?_, hh.pin, hh.bb, fun b q x y g hx hy hf hg => ?_, fun q p x y g hx hy hf hf' hg hg' => ?_⟩, fun t x hx => ?_⟩
  · obtain ⟨a1, cs, a2, a3⟩ := hh.box b x hx
    have hn := List.all_eq_true.1 hB _ (lk_mem hx)
    have a4 : CFit w (Dc cx B R M V w) M V' x.cs cs := ⟨a3.1, fun j y v h1 h2 => ⟨(a3.2 j y v h1 h2).1.newV hV (List.all_eq_true.1 hn _ (List.mem_of_getElem? h1)), (a3.2 j y v h1 h2).2⟩⟩
    exact ⟨a1, cs, a2.kept hb, a4.stay hk hD⟩
  · rcases lk_cons hx with ⟨rfl, rfl⟩ | ⟨hne, hx⟩
    · rw [hVr]
      exact (⟨cs, hown0, fits_cells _ _ _⟩ : Gr _ _ _ _ _ _ _ _)
    · rw [hV q (Ne.symm hne)]
      have h1 := hh.row q x hx
      split
      · rename_i hf
        rw [if_pos hf] at h1
        exact h1.stay hk hD
      · rename_i hf
        rw [if_neg hf] at h1
        obtain ⟨xs, a2, a3⟩ := h1
        exact ⟨xs, ownsRow.stay a2 fun g hg => hb.block g (a2.lt g hg).2, a3.stay hk hD⟩
  · rcases lk_cons hx with ⟨rfl, rfl⟩ | ⟨hne, hx⟩
    · rw [hVr] at hg
      have := (hlt g hg).1
      exact .inl (by omega)
    · rw [hV q (Ne.symm hne)] at hg
      exact hh.ro q x g hx hf hg
  · rcases lk_cons hy with ⟨rfl, rfl⟩ | ⟨hne, hy⟩
    · rw [hVr] at hg
      have := (hlt g hg).1
      have := hoB b x hx
      omega
    · rw [hV q (Ne.symm hne)] at hg
      exact hh.br b q x y g hx hy hf hg
  · rcases lk_cons hx with ⟨rfl, rfl⟩ | ⟨hne, hx⟩
    · rcases lk_cons hy with ⟨rfl, rfl⟩ | ⟨hne', hy⟩
      · rfl
      · rw [hVr] at hg
        rw [hV p (Ne.symm hne')] at hg'
        have := (hlt g hg).1
        have := hold p y g hy hf' hg'
        omega
    · rcases lk_cons hy with ⟨rfl, rfl⟩ | ⟨hne', hy⟩
      · rw [hVr] at hg'
        rw [hV q (Ne.symm hne)] at hg
        have := (hlt g hg').1
        have := hold q x g hx hf hg
        omega
      · rw [hV q (Ne.symm hne)] at hg
        rw [hV p (Ne.symm hne')] at hg'
        exact hh.rr q p x y g hx hy hf hf' hg hg'
  · exact ((hrel.tmp t x hx).newV hV (List.all_eq_true.1 hT _ (lk_mem hx))).stay hk hD
end
end Go.Proofs.Ytlikbiiimhfnkaa
namespace Go.Proofs.Ytlikbiiimhfnkaa
open Go.RowKit
section
variable {P : Program} {cx : Cx} {T : TL} {B : BL} {R : RL} {ops : Array Oper} {Q : Exit → Act → World → Prop} {deps : List (List Nat)}
def depsOf (ops : Array Oper) : List (List Nat) := ops.toList.map fun o => (o.after.toList.filter fun e => Region.binds .any e).map (·.on)
def readyC (L : List Bool) : Nat → List (List Nat) → List Nat
  | _, [] => []
  | i, d :: ds => bif !(L.getD i true) && d.all (fun j => L.getD j false) then i :: readyC L (i + 1) ds else readyC L (i + 1) ds
theorem mem_readyC {L : List Bool} : ∀ {ds : List (List Nat)} {k i : Nat}, i ∈ readyC L k ds ↔ k ≤ i ∧ L.getD i true = false ∧ ∃ d, ds[i - k]? = some d ∧ d.all (fun j => L.getD j false) = true
  | [], k, i => by simp [readyC]
  | d :: ds, k, i => by
    have ih := mem_readyC (L := L) (ds := ds) (k := k + 1) (i := i)
    have key : i ∈ readyC L k (d :: ds) ↔ (i = k ∧ L.getD k true = false ∧ d.all (fun j => L.getD j false) = true) ∨ i ∈ readyC L (k + 1) ds := by
      rw [show readyC L k (d :: ds) = bif !(L.getD k true) && d.all (fun j => L.getD j false) then k :: readyC L (k + 1) ds else readyC L (k + 1) ds from rfl]
      cases h : (!(L.getD k true) && d.all (fun j => L.getD j false)) with
      | true =>
        simp only [Bool.and_eq_true, Bool.not_eq_true'] at h
        simp only [cond_true, List.mem_cons]
        exact ⟨fun h' => h'.imp (fun e => ⟨e, h.1, h.2⟩) id, fun h' => h'.imp (fun e => e.1) id⟩
      | false =>
        simp only [cond_false]
        refine ⟨.inr, fun h' => h'.resolve_left fun e => ?_⟩
        rw [e.2.1, e.2.2] at h
        cases h
    rw [key, ih]
    constructor
    · rintro (⟨rfl, h1, h2⟩ | ⟨h1, h2, d', h3, h4⟩)
      · exact ⟨Nat.le_refl _, h1, d, by simp, h2⟩
      · refine ⟨by omega, h2, d', ?_, h4⟩
        rw [show i - k = (i - (k + 1)) + 1 by omega, List.getElem?_cons_succ]
        exact h3
    · rintro ⟨h1, h2, d', h3, h4⟩
      by_cases e : i = k
      · subst e
        rw [Nat.sub_self, List.getElem?_cons_zero] at h3
        obtain rfl := Option.some.inj h3
        exact .inl ⟨rfl, h2, h4⟩
      · rw [show i - k = (i - (k + 1)) + 1 by omega, List.getElem?_cons_succ] at h3
        exact .inr ⟨by omega, h2, d', h3, h4⟩
theorem ready_readyC {L : List Bool} (hd : depsOf ops = deps) {i : Nat} : i ∈ Region.ready .any ops L.toArray ↔ i ∈ readyC L 0 deps := by
  have hg : ∀ (j : Nat) (b : Bool), L.toArray.getD j b = L.getD j b := fun j b => by simp [List.getD_eq_getElem?_getD]
  rw [mem_ready, mem_readyC, ← hd]
  simp only [hg, Nat.zero_le, true_and, Nat.sub_zero, depsOf, List.getElem?_map, Array.getElem?_toList]
  constructor
  · rintro ⟨h1, o, ho, h2⟩
    refine ⟨h1, _, by rw [ho]; rfl, ?_⟩
    rw [List.all_eq_true]
    intro j hj
    obtain ⟨e, he, rfl⟩ := List.mem_map.1 hj
    obtain ⟨he1, he2⟩ := List.mem_filter.1 he
    exact h2 e (Array.mem_toList_iff.1 he1) he2
  · rintro ⟨h1, d, h2, h3⟩
    cases ho : ops[i]? with
    | none => rw [ho] at h2; cases h2
    | some o =>
      rw [ho] at h2
      obtain rfl := Option.some.inj h2
      refine ⟨h1, o, rfl, fun e he hb => ?_⟩
      exact List.all_eq_true.1 h3 _ (List.mem_map.2 ⟨e, List.mem_filter.2 ⟨Array.mem_toList_iff.2 he, hb⟩, rfl⟩)
theorem e_draw_any {id : Nat} {l : List Oper} (n : Nat) (L : List Bool) (deps : List (List Nat)) (hd : depsOf l.toArray = deps) (hn : l.toArray.size = n) (hm : P.follows .mixedOrders = true) (hL : List.replicate n false = L) (h : depsOf l.toArray = deps → E cx T B R (wpAny P .any l.toArray Q n L.toArray)) : E cx T B R ((Code.region id l.toArray true).wp P Q) := fun M V a w hr => by
  have hr1 : Rel cx T B R M V a w.drew := ⟨hr.size, hr.defers, hr.heap.step (Below.refl _ _).drew, fun t x hx => (hr.tmp t x hx).stay (hr.heap.keeps (Below.refl _ _).drew) fun _ hg => hg.mono (Nat.le_refl _)⟩
  refine wp_region_any hm ?_
  rw [hn, ← List.toArray_replicate, hL]
  exact h hd M V a w.drew hr1
def AnyE (P : Program) (cx : Cx) (T : TL) (B : BL) (R : RL) (ops : Array Oper) (Q : Exit → Act → World → Prop) (fuel : Nat) (L : List Bool) : List Nat → Prop
  | [] => True
  | i :: is => E cx T B R (wpOp P ops Q i (wpAny P .any ops Q fuel (L.set i true).toArray)) ∧ AnyE P cx T B R ops Q fuel L is
theorem AnyE.get {fuel : Nat} {L : List Bool} : ∀ {is : List Nat} (_ : AnyE P cx T B R ops Q fuel L is) {i : Nat}, i ∈ is → E cx T B R (wpOp P ops Q i (wpAny P .any ops Q fuel (L.set i true).toArray))
  | j :: is, h, i, hi => by
    rcases List.mem_cons.1 hi with rfl | hi
    · exact h.1
    · exact AnyE.get h.2 hi
  | [], _, _, hi => by cases hi
theorem e_any {fuel : Nat} {L : List Bool} (hd : depsOf ops = deps) (hne : (readyC L 0 deps).isEmpty = false) (h : AnyE P cx T B R ops Q fuel L (readyC L 0 deps)) : E cx T B R (wpAny P .any ops Q (fuel + 1) L.toArray) := fun M V a w hrel => by
  refine ⟨fun e => ?_, fun i hi => ?_⟩
  · cases hl : readyC L 0 deps with
    | nil => rw [hl] at hne; cases hne
    | cons i is =>
      have : i ∈ Region.ready .any ops L.toArray := (ready_readyC hd).2 (by rw [hl]; exact List.mem_cons_self)
      rw [e] at this
      cases this
  · have := AnyE.get h ((ready_readyC hd).1 hi)
    rw [List.setIfInBounds_toArray]
    exact this M V a w hrel
theorem e_any0 {L : List Bool} (hd : depsOf ops = deps) (hr : (readyC L 0 deps).isEmpty = true) (h : E cx T B R (Q .normal)) : E cx T B R (wpAny P .any ops Q 0 L.toArray) := fun M V a w hrel => by
  refine ⟨?_, h M V a w hrel⟩
  cases hl : Region.ready .any ops L.toArray with
  | nil => rfl
  | cons i is =>
    have : i ∈ readyC L 0 deps := (ready_readyC hd).1 (by rw [hl]; exact List.mem_cons_self)
    cases hl2 : readyC L 0 deps with
    | nil => rw [hl2] at this; cases this
    | cons j js => rw [hl2] at hr; cases hr
theorem e_opi {i : Nat} {o : Oper} {K : Act → World → Prop} (ho : ops[i]? = some o) (hl : LetsOut (Exit.then K Q) → LetsOut Q) (h : E cx T B R (wpList P ops (Exit.then K Q) [o])) : E cx T B R (wpOp P ops Q i K) := fun M V a w hrel => op_of_list ho hl (h M V a w hrel)
end
end Go.Proofs.Ytlikbiiimhfnkaa
namespace Go.Proofs.Ytlikbiiimhfnkaa
open Go.RowKit
def pickT (L : List Bool) : List (Nat × Nat × IV) → TL
  | [] => []
  | (i, s, y) :: es => bif L.getD i false then (s, y) :: pickT L es else pickT L es
def pickS (L : List Bool) : List Nat → List (Nat × Nat × Bx) → BL
  | _, [] => []
  | sn, (i, s, y) :: es => bif L.getD i false && !(sn.any fun c => Nat.beq c s) then (s, y) :: pickS L (s :: sn) es else pickS L sn es
def pickB (L : List Bool) (es : List (Nat × Nat × Bx)) : BL := pickS L [] es
def dagB (deps : List (List Nat)) (L0 full : List Bool) (reach : List (List Bool)) (steps : List (List Bool × Nat)) : Bool :=
  reach.contains L0 && reach.all fun L => bif L == full then (readyC L 0 deps).isEmpty && (L.count false == 0) else
    !(readyC L 0 deps).isEmpty && (readyC L 0 deps).all fun i => steps.contains (L, i) && reach.contains (L.set i true) && ((L.set i true).count false + 1 == L.count false)
section
variable {P : Program} {cx : Cx} {T0 : TL} {B0 : BL} {R : RL} {ops : Array Oper} {Q : Exit → Act → World → Prop} {deps : List (List Nat)} {es : List (Nat × Nat × IV)} {bs : List (Nat × Nat × Bx)}
def AllSteps (P : Program) (cx : Cx) (T0 : TL) (B0 : BL) (R : RL) (ops : Array Oper) (Q : Exit → Act → World → Prop) (es : List (Nat × Nat × IV)) (bs : List (Nat × Nat × Bx)) : List (List Bool × Nat) → Prop
  | [] => True
  | (L, i) :: r => (∀ K, E cx (T0 ++ pickT (L.set i true) es) (pickB (L.set i true) bs ++ B0) R K → E cx (T0 ++ pickT L es) (pickB L bs ++ B0) R (wpOp P ops Q i K)) ∧ AllSteps P cx T0 B0 R ops Q es bs r
theorem AllSteps.get : ∀ {st : List (List Bool × Nat)} (_ : AllSteps P cx T0 B0 R ops Q es bs st) {L : List Bool} {i : Nat}, (L, i) ∈ st → ∀ K, E cx (T0 ++ pickT (L.set i true) es) (pickB (L.set i true) bs ++ B0) R K → E cx (T0 ++ pickT L es) (pickB L bs ++ B0) R (wpOp P ops Q i K)
  | (L', j) :: r, h, L, i, hm => by
    rcases List.mem_cons.1 hm with e | hm
    · injection e with e1 e2
      subst e1 e2
      exact h.1
    · exact AllSteps.get h.2 hm
  | [], _, _, _, hm => by cases hm
theorem AnyE.of {T : TL} {B : BL} {fuel : Nat} {L : List Bool} : ∀ {is : List Nat}, (∀ i ∈ is, E cx T B R (wpOp P ops Q i (wpAny P .any ops Q fuel (L.set i true).toArray))) → AnyE P cx T B R ops Q fuel L is
  | [], _ => trivial
  | i :: is, h => ⟨h i List.mem_cons_self, AnyE.of fun j hj => h j (List.mem_cons_of_mem _ hj)⟩
theorem e_states {L0 full : List Bool} {reach : List (List Bool)} {steps : List (List Bool × Nat)} (hd : depsOf ops = deps) (hB : dagB deps L0 full reach steps = true) (hs : AllSteps P cx T0 B0 R ops Q es bs steps) (hend : E cx (T0 ++ pickT full es) (pickB full bs ++ B0) R (Q .normal)) :
    ∀ (m : Nat) (L : List Bool), L.count false = m → L ∈ reach → E cx (T0 ++ pickT L es) (pickB L bs ++ B0) R (wpAny P .any ops Q m L.toArray) := by
  simp only [dagB, Bool.and_eq_true] at hB
  have hall := List.all_eq_true.1 hB.2
  intro m
  induction m with
  | zero =>
    intro L hm hL
    have h := hall L hL
    cases hf : (L == full) with
    | true =>
      rw [hf] at h
      simp only [cond_true, Bool.and_eq_true] at h
      rw [beq_iff_eq] at hf
      subst hf
      exact e_any0 hd h.1 hend
    | false =>
      rw [hf] at h
      simp only [cond_false, Bool.and_eq_true] at h
      cases hr : readyC L 0 deps with
      | nil => rw [hr] at h; exact absurd h.1 (by decide)
      | cons i is =>
        have h2 := List.all_eq_true.1 h.2 i (by rw [hr]; exact List.mem_cons_self)
        simp only [Bool.and_eq_true, beq_iff_eq] at h2
        omega
  | succ m ih =>
    intro L hm hL
    have h := hall L hL
    cases hf : (L == full) with
    | true =>
      rw [hf] at h
      simp only [cond_true, Bool.and_eq_true, beq_iff_eq] at h
      omega
    | false =>
      rw [hf] at h
      simp only [cond_false, Bool.and_eq_true, Bool.not_eq_true'] at h
      refine e_any hd h.1 (AnyE.of fun i hi => ?_)
      have h2 := List.all_eq_true.1 h.2 i hi
      simp only [Bool.and_eq_true, beq_iff_eq, List.contains_iff_mem] at h2
      exact hs.get h2.1.1 _ (ih _ (by omega) h2.1.2)
theorem e_subK {T T' : TL} {B B' : BL} {K : Act → World → Prop} (hK : E cx T' B' [] K) (hT : SubT T T') (hB : SubB B B') : E cx T B [] K := e_sub (R' := []) hT hB trivial hK
theorem e_draw_st {id : Nat} {l : List Oper} (n : Nat) (deps : List (List Nat)) (reach : List (List Bool)) (steps : List (List Bool × Nat)) (es : List (Nat × Nat × IV)) (bs : List (Nat × Nat × Bx)) {T : TL} {B : BL} (T0 : TL) (B0 : BL) (hd : depsOf l.toArray = deps) (hn : l.toArray.size = n) (hm : P.follows .mixedOrders = true) (hB : dagB deps (List.replicate n false) (List.replicate n true) reach steps = true) (hc : (List.replicate n false).count false = n)
    (h0 : ∀ K, E cx (T0 ++ pickT (List.replicate n false) es) (pickB (List.replicate n false) bs ++ B0) R K → E cx T B R K) (hs : AllSteps P cx T0 B0 R l.toArray Q es bs steps) (hend : E cx (T0 ++ pickT (List.replicate n true) es) (pickB (List.replicate n true) bs ++ B0) R (Q .normal)) : E cx T B R ((Code.region id l.toArray true).wp P Q) := by
  refine e_draw_any n _ deps hd hn hm rfl fun _ => h0 _ ?_
  refine e_states hd hB hs hend n _ hc ?_
  simp only [dagB, Bool.and_eq_true, List.contains_iff_mem] at hB
  exact hB.1
end
end Go.Proofs.Ytlikbiiimhfnkaa
namespace Go.Proofs.Ytlikbiiimhfnkaa
open Go.RowKit
abbrev xB (t : TypeId) (v : Vl) : Bx := ⟨t, bcs (vd v)⟩
set_option maxRecDepth 100000 in
set_option maxHeartbeats 4000000 in
theorem tells_ef (hP : ProgE) (a b : Vl) (ha : a.Fine) (hb : b.Fine) : EF Try.prog [] 3 [.many (vd a), .many (vd b)] (.part (tP true)) := by
  refine ef_enter 56 Try.func3 rfl rfl rfl fun w D => ?_
  try refine e_fl ?_
  refine e_list ?_
  refine e_box 2 rfl rfl rfl rfl (kn rfl) rfl rfl rfl rfl ?_
  refine e_box 3 rfl rfl rfl rfl (kn rfl) rfl rfl rfl rfl ?_
  refine l_as ?_
  refine e_nil ?_
  try refine e_fl ?_
  refine e_plain (w_op rfl rfl rfl (s_call rfl (by kernel_rfl) (alive_ef hP) trivial) (w_op rfl rfl rfl (s_not rfl (kn rfl)) .nil)) ?_
  try refine e_fl ?_
  refine c_no ?_
  try refine e_fl ?_
  refine e_plain (w_op rfl rfl rfl (s_loadn_box (ds := [_, _, _, _, _, _, _]) 7 rfl (kn rfl) rfl rfl agg_27 sz_27 rfl) (w_op rfl rfl rfl (s_call rfl (by kernel_rfl) (big_ef a 100 ha (by decide) (by decide)) ⟨(kn rfl), ⟨(kn rfl), trivial⟩⟩) (w_mv rfl rfl rfl rfl rfl (Walk.gd _ rfl rfl rfl (fun h => s_loadn_box (ds := [_, _, _, _, _, _, _]) 7 rfl (kn rfl) rfl rfl agg_27 sz_27 rfl) (Walk.gd _ rfl rfl rfl (fun h => s_call rfl (by kernel_rfl) (big_ef b 100 hb (by decide) (by decide)) ⟨(kn_opt rfl h), ⟨(kn rfl), trivial⟩⟩) (w_op rfl rfl rfl (s_or rfl (kn rfl) (fun hb => kn_opt rfl hb)) .nil)))))) ?_
  try refine e_fl ?_
  refine e_cond rfl (fun h => ?_) (fun h => ?_)
  · try refine e_fl ?_
    refine e_plain (w_as rfl rfl rfl rfl rfl .nil) ?_
    try refine e_fl ?_
    exact e_return rfl rfl (.tmp (kn rfl) (.nil)) (Imp.of_eq rfl) rfl
  simp only [Bool.or_eq_false_iff] at h
  obtain ⟨g1, g2⟩ := h
  have qa := good_of ha (by decide) (by decide) g1
  have qb := good_of hb (by decide) (by decide) g2
  clear g1 g2
  have oa := of_ef a (by have := qa.nodes; omega)
  have ob := of_ef b (by have := qb.nodes; omega)
  try refine e_fl ?_
  refine e_sub (T' := [(2, .box 2 0), (3, .box 3 0)]) (B' := [(2, xB 27 a), (3, xB 27 b)]) (R' := []) ⟨s_t, s_t, trivial⟩ ⟨s_b, s_b, trivial⟩ trivial ?_
  refine e_draw_st 8 [[], [0], [], [2, 1], [], [], [4, 1, 3, 0, 1, 4, 5], [5, 3, 6, 0, 1, 2, 3, 4, 5, 6]] [[false, false, false, false, false, false, false, false], [true, false, false, false, false, false, false, false], [false, false, true, false, false, false, false, false], [false, false, false, false, true, false, false, false], [false, false, false, false, false, true, false, false], [true, true, false, false, false, false, false, false], [true, false, true, false, false, false, false, false], [true, false, false, false, true, false, false, false], [true, false, false, false, false, true, false, false], [false, false, true, false, true, false, false, false], [false, false, true, false, false, true, false, false], [false, false, false, false, true, true, false, false], [true, true, true, false, false, false, false, false], [true, true, false, false, true, false, false, false], [true, true, false, false, false, true, false, false], [true, false, true, false, true, false, false, false], [true, false, true, false, false, true, false, false], [true, false, false, false, true, true, false, false], [false, false, true, false, true, true, false, false], [true, true, true, true, false, false, false, false], [true, true, true, false, true, false, false, false], [true, true, true, false, false, true, false, false], [true, true, false, false, true, true, false, false], [true, false, true, false, true, true, false, false], [true, true, true, true, true, false, false, false], [true, true, true, true, false, true, false, false], [true, true, true, false, true, true, false, false], [true, true, true, true, true, true, false, false], [true, true, true, true, true, true, true, false], [true, true, true, true, true, true, true, true]] [([false, false, false, false, false, false, false, false], 0), ([false, false, false, false, false, false, false, false], 2), ([false, false, false, false, false, false, false, false], 4), ([false, false, false, false, false, false, false, false], 5), ([true, false, false, false, false, false, false, false], 1), ([true, false, false, false, false, false, false, false], 2), ([true, false, false, false, false, false, false, false], 4), ([true, false, false, false, false, false, false, false], 5), ([false, false, true, false, false, false, false, false], 0), ([false, false, true, false, false, false, false, false], 4), ([false, false, true, false, false, false, false, false], 5), ([false, false, false, false, true, false, false, false], 0), ([false, false, false, false, true, false, false, false], 2), ([false, false, false, false, true, false, false, false], 5), ([false, false, false, false, false, true, false, false], 0), ([false, false, false, false, false, true, false, false], 2), ([false, false, false, false, false, true, false, false], 4), ([true, true, false, false, false, false, false, false], 2), ([true, true, false, false, false, false, false, false], 4), ([true, true, false, false, false, false, false, false], 5), ([true, false, true, false, false, false, false, false], 1), ([true, false, true, false, false, false, false, false], 4), ([true, false, true, false, false, false, false, false], 5), ([true, false, false, false, true, false, false, false], 1), ([true, false, false, false, true, false, false, false], 2), ([true, false, false, false, true, false, false, false], 5), ([true, false, false, false, false, true, false, false], 1), ([true, false, false, false, false, true, false, false], 2), ([true, false, false, false, false, true, false, false], 4), ([false, false, true, false, true, false, false, false], 0), ([false, false, true, false, true, false, false, false], 5), ([false, false, true, false, false, true, false, false], 0), ([false, false, true, false, false, true, false, false], 4), ([false, false, false, false, true, true, false, false], 0), ([false, false, false, false, true, true, false, false], 2), ([true, true, true, false, false, false, false, false], 3), ([true, true, true, false, false, false, false, false], 4), ([true, true, true, false, false, false, false, false], 5), ([true, true, false, false, true, false, false, false], 2), ([true, true, false, false, true, false, false, false], 5), ([true, true, false, false, false, true, false, false], 2), ([true, true, false, false, false, true, false, false], 4), ([true, false, true, false, true, false, false, false], 1), ([true, false, true, false, true, false, false, false], 5), ([true, false, true, false, false, true, false, false], 1), ([true, false, true, false, false, true, false, false], 4), ([true, false, false, false, true, true, false, false], 1), ([true, false, false, false, true, true, false, false], 2), ([false, false, true, false, true, true, false, false], 0), ([true, true, true, true, false, false, false, false], 4), ([true, true, true, true, false, false, false, false], 5), ([true, true, true, false, true, false, false, false], 3), ([true, true, true, false, true, false, false, false], 5), ([true, true, true, false, false, true, false, false], 3), ([true, true, true, false, false, true, false, false], 4), ([true, true, false, false, true, true, false, false], 2), ([true, false, true, false, true, true, false, false], 1), ([true, true, true, true, true, false, false, false], 5), ([true, true, true, true, false, true, false, false], 4), ([true, true, true, false, true, true, false, false], 3), ([true, true, true, true, true, true, false, false], 6), ([true, true, true, true, true, true, true, false], 7)] [(0, 15, .part (.many (vd a))), (1, 16, .part (.many (vd a))), (2, 17, .part (.many (vd b))), (3, 18, .part (.many (vd b))), (4, 5, .box 5 0), (5, 6, .box 6 0)] [(6, 5, xB 34 a), (7, 6, xB 34 b), (4, 5, ⟨34, zB⟩), (5, 6, ⟨34, zB⟩)] [(2, .box 2 0), (3, .box 3 0)] [(2, xB 27 a), (3, xB 27 b)] (by kernel_rfl) rfl mixed (by kernel_rfl) (by decide) (fun K h => h) ?_ ?_
  · repeat' first
      | exact trivial
      | refine And.intro ?_ ?_
    all_goals
      intro K hK
      first
        | (refine e_opi (i := 0) rfl (fun h => h) ?_; refine l_op (s_loadn_box (ds := [_, _, _, _, _, _, _]) 7 rfl (kn rfl) rfl rfl agg_27 sz_27 rfl) ?_; refine e_nil ?_; refine e_fl ?_; exact e_subK hK (by repeat' first | exact trivial | refine And.intro s_t ?_) (by repeat' first | exact trivial | refine And.intro s_b ?_))
        | (refine e_opi (i := 1) rfl (fun h => h) ?_; refine l_op (s_call rfl (by kernel_rfl) (oa) ⟨(kn rfl), trivial⟩) ?_; refine e_nil ?_; refine e_fl ?_; exact e_subK hK (by repeat' first | exact trivial | refine And.intro s_t ?_) (by repeat' first | exact trivial | refine And.intro s_b ?_))
        | (refine e_opi (i := 2) rfl (fun h => h) ?_; refine l_op (s_loadn_box (ds := [_, _, _, _, _, _, _]) 7 rfl (kn rfl) rfl rfl agg_27 sz_27 rfl) ?_; refine e_nil ?_; refine e_fl ?_; exact e_subK hK (by repeat' first | exact trivial | refine And.intro s_t ?_) (by repeat' first | exact trivial | refine And.intro s_b ?_))
        | (refine e_opi (i := 3) rfl (fun h => h) ?_; refine l_op (s_call rfl (by kernel_rfl) (ob) ⟨(kn rfl), trivial⟩) ?_; refine e_nil ?_; refine e_fl ?_; exact e_subK hK (by repeat' first | exact trivial | refine And.intro s_t ?_) (by repeat' first | exact trivial | refine And.intro s_b ?_))
        | (refine e_opi (i := 4) rfl (fun h => h) ?_; refine e_alloc 5 [.is (.int .i64 0), .is (.int .u64 0), .is (.string ⟨#[]⟩), .is (.slice none 0 0), .is (.string ⟨#[]⟩), .is (.slice none 0 0), .is (.slice none 0 0)] rfl rfl rfl rfl zr_34 (fun w D M V => ⟨rfl, fun j x v h1 h2 => cfit_is _ h1 h2 rfl⟩) rfl rfl rfl rfl ?_; refine e_nil ?_; refine e_fl ?_; exact e_subK hK (by repeat' first | exact trivial | refine And.intro s_t ?_) (by repeat' first | exact trivial | refine And.intro s_b ?_))
        | (refine e_opi (i := 5) rfl (fun h => h) ?_; refine e_alloc 6 [.is (.int .i64 0), .is (.int .u64 0), .is (.string ⟨#[]⟩), .is (.slice none 0 0), .is (.string ⟨#[]⟩), .is (.slice none 0 0), .is (.slice none 0 0)] rfl rfl rfl rfl zr_34 (fun w D M V => ⟨rfl, fun j x v h1 h2 => cfit_is _ h1 h2 rfl⟩) rfl rfl rfl rfl ?_; refine e_nil ?_; refine e_fl ?_; exact e_subK hK (by repeat' first | exact trivial | refine And.intro s_t ?_) (by repeat' first | exact trivial | refine And.intro s_b ?_))
        | (refine e_opi (i := 6) rfl (fun h => h) ?_; refine e_storew rfl rfl rfl (kn rfl) rfl (kn rfl) rfl rfl sz_34 ?_; refine e_nil ?_; refine e_fl ?_; exact e_subK hK (by repeat' first | exact trivial | refine And.intro s_t ?_) (by repeat' first | exact trivial | refine And.intro s_b ?_))
        | (refine e_opi (i := 7) rfl (fun h => h) ?_; refine e_storew rfl rfl rfl (kn rfl) rfl (kn rfl) rfl rfl sz_34 ?_; refine e_nil ?_; refine e_fl ?_; exact e_subK hK (by repeat' first | exact trivial | refine And.intro s_t ?_) (by repeat' first | exact trivial | refine And.intro s_b ?_))
  try refine e_fl ?_
  refine e_draw mixed (by kernel_rfl) (w_op rfl rfl rfl (s_loadn_box (ds := [_, _, _, _, _, _, _]) 7 rfl (kn rfl) rfl rfl agg_27 sz_27 rfl) (w_op rfl rfl rfl (s_call rfl (by kernel_rfl) (hP.right a qa) ⟨(kn rfl), trivial⟩) (w_op rfl rfl rfl (s_loadn_box (ds := [_, _, _, _, _, _, _]) 7 rfl (kn rfl) rfl rfl agg_34 sz_34 rfl) (w_op rfl rfl rfl (s_call rfl (by kernel_rfl) (right_ef a qa.fine qa.tx (by have := qa.nodes; omega)) ⟨(kn rfl), trivial⟩) (w_op rfl rfl rfl (s_bin rfl (kn rfl) (kn rfl) (v_beq bool_4)) (w_mv rfl rfl rfl rfl rfl (Walk.gd _ rfl rfl rfl (fun h => s_loadn_box (ds := [_, _, _, _, _, _, _]) 7 rfl (kn rfl) rfl rfl agg_27 sz_27 rfl) (Walk.gd _ rfl rfl rfl (fun h => s_call rfl (by kernel_rfl) (hP.size a qa) ⟨(kn_opt rfl h), trivial⟩) (Walk.gd _ rfl rfl rfl (fun h => s_loadn_box (ds := [_, _, _, _, _, _, _]) 7 rfl (kn rfl) rfl rfl agg_34 sz_34 rfl) (Walk.gd _ rfl rfl rfl (fun h => s_call rfl (by kernel_rfl) (size_ef a (by have := qa.nodes; omega)) ⟨(kn_opt rfl h), trivial⟩) (Walk.gd _ rfl rfl rfl (fun h => s_bin rfl (kn_opt rfl h) (kn_opt rfl h) v_eql) (w_op rfl rfl rfl (s_and rfl (kn rfl) (fun hb => kn_opt rfl hb)) (w_mv rfl rfl rfl rfl rfl (Walk.gd _ rfl rfl rfl (fun h => s_loadn_box (ds := [_, _, _, _, _, _, _]) 7 rfl (kn rfl) rfl rfl agg_27 sz_27 rfl) (Walk.gd _ rfl rfl rfl (fun h => s_call rfl (by kernel_rfl) (hP.depth a qa) ⟨(kn_opt rfl h), trivial⟩) (Walk.gd _ rfl rfl rfl (fun h => s_loadn_box (ds := [_, _, _, _, _, _, _]) 7 rfl (kn rfl) rfl rfl agg_34 sz_34 rfl) (Walk.gd _ rfl rfl rfl (fun h => s_call rfl (by kernel_rfl) (depth_ef a (by have := qa.nodes; omega)) ⟨(kn_opt rfl h), trivial⟩) (Walk.gd _ rfl rfl rfl (fun h => s_bin rfl (kn_opt rfl h) (kn_opt rfl h) v_eql) (w_op rfl rfl rfl (s_and rfl (kn rfl) (fun hb => kn_opt rfl hb)) (w_mv rfl rfl rfl rfl rfl (Walk.gd _ rfl rfl rfl (fun h => s_loadn_box (ds := [_, _, _, _, _, _, _]) 7 rfl (kn rfl) rfl rfl agg_27 sz_27 rfl) (Walk.gd _ rfl rfl rfl (fun h => s_loadn_box (ds := [_, _, _, _, _, _, _]) 7 rfl (kn rfl) rfl rfl agg_27 sz_27 rfl) (Walk.gd _ rfl rfl rfl (fun h => s_call rfl (by kernel_rfl) (hP.cmp a b qa qb) ⟨(kn_opt rfl h), ⟨(kn_opt rfl h), trivial⟩⟩) (Walk.gd _ rfl rfl rfl (fun h => s_loadn_box (ds := [_, _, _, _, _, _, _]) 7 rfl (kn rfl) rfl rfl agg_34 sz_34 rfl) (Walk.gd _ rfl rfl rfl (fun h => s_loadn_box (ds := [_, _, _, _, _, _, _]) 7 rfl (kn rfl) rfl rfl agg_34 sz_34 rfl) (Walk.gd _ rfl rfl rfl (fun h => s_call rfl (by kernel_rfl) (cmp_ef a ha b hb) ⟨(kn_opt rfl h), ⟨(kn_opt rfl h), trivial⟩⟩) (Walk.gd _ rfl rfl rfl (fun h => s_bin rfl (kn_opt rfl h) (kn_opt rfl h) v_eql) (w_op rfl rfl rfl (s_and rfl (kn rfl) (fun hb => kn_opt rfl hb)) (w_mv rfl rfl rfl rfl rfl (Walk.gd _ rfl rfl rfl (fun h => s_loadn_box (ds := [_, _, _, _, _, _, _]) 7 rfl (kn rfl) rfl rfl agg_27 sz_27 rfl) (Walk.gd _ rfl rfl rfl (fun h => s_loadn_box (ds := [_, _, _, _, _, _, _]) 7 rfl (kn rfl) rfl rfl agg_27 sz_27 rfl) (Walk.gd _ rfl rfl rfl (fun h => s_call rfl (by kernel_rfl) (hP.same a b qa qb) ⟨(kn_opt rfl h), ⟨(kn_opt rfl h), trivial⟩⟩) (Walk.gd _ rfl rfl rfl (fun h => s_loadn_box (ds := [_, _, _, _, _, _, _]) 7 rfl (kn rfl) rfl rfl agg_34 sz_34 rfl) (Walk.gd _ rfl rfl rfl (fun h => s_loadn_box (ds := [_, _, _, _, _, _, _]) 7 rfl (kn rfl) rfl rfl agg_34 sz_34 rfl) (Walk.gd _ rfl rfl rfl (fun h => s_call rfl (by kernel_rfl) (same_ef a b ha hb) ⟨(kn_opt rfl h), ⟨(kn_opt rfl h), trivial⟩⟩) (Walk.gd _ rfl rfl rfl (fun h => s_bin rfl (kn_opt rfl h) (kn_opt rfl h) (v_beq bool_4)) (w_op rfl rfl rfl (s_and rfl (kn rfl) (fun hb => kn_opt rfl hb)) (w_as rfl rfl rfl rfl rfl .nil)))))))))))))))))))))))))))))))))))))) ?_
  try refine e_fl ?_
  exact e_return rfl rfl (.tmp (kn rfl) (.nil)) (Imp.of_eq (by simp; rfl)) rfl
end Go.Proofs.Ytlikbiiimhfnkaa
namespace Go.Proofs.Ytlikbiiimhfnkaa
open Go
def wgo (n : Int) (x : Vl) : Bool → List (Int × Vl) → List (Int × Vl)
  | d, [] => if d then [] else [(n, x)]
  | d, f :: fs => if d = false ∧ n ≤ f.1 then (n, x) :: (if f.1 = n then wgo n x true fs else f :: wgo n x true fs) else if f.1 = n then wgo n x d fs else f :: wgo n x d fs
theorem wgo_fold (n : Int) (x : Vl) : ∀ (fs : List (Int × Vl)) (d : Bool) (acc : List (Int × Vl)),
    (if (fs.foldl (fun s f => wtwo n (wone n x s f) f) (d, acc)).1 then (fs.foldl (fun s f => wtwo n (wone n x s f) f) (d, acc)).2 else (fs.foldl (fun s f => wtwo n (wone n x s f) f) (d, acc)).2 ++ [(n, x)]) = acc ++ wgo n x d fs
  | [], d, acc => by cases d <;> simp [wgo]
  | f :: fs, d, acc => by
    rw [List.foldl_cons, wgo]
    by_cases h : d = false ∧ n ≤ f.1
    · have e : wone n x (d, acc) f = (true, acc ++ [(n, x)]) := if_pos h
      rw [e, if_pos h]
      by_cases h2 : f.1 = n
      · rw [show wtwo n (true, acc ++ [(n, x)]) f = (true, acc ++ [(n, x)]) from if_pos h2, if_pos h2, wgo_fold n x fs]
        simp
      · rw [show wtwo n (true, acc ++ [(n, x)]) f = (true, acc ++ [(n, x)] ++ [f]) from if_neg h2, if_neg h2, wgo_fold n x fs]
        simp
    · have e : wone n x (d, acc) f = (d, acc) := if_neg h
      rw [e, if_neg h]
      by_cases h2 : f.1 = n
      · rw [show wtwo n (d, acc) f = (d, acc) from if_pos h2, if_pos h2, wgo_fold n x fs]
      · rw [show wtwo n (d, acc) f = (d, acc ++ [f]) from if_neg h2, if_neg h2, wgo_fold n x fs]
        simp
theorem wfields_go (n : Int) (x : Vl) (fs : List (Int × Vl)) : wfields n x fs = wgo n x (decide (x.kind = 0)) fs := by
  have h := wgo_fold n x fs (decide (x.kind = 0)) []
  rw [List.nil_append] at h
  exact h
theorem fright_iff (p : Int) (f : Int × Vl) (fs : List (Int × Vl)) : fright p (f :: fs) = true ↔ 1 ≤ f.1 ∧ f.1 ≤ 536870911 ∧ p < f.1 ∧ f.2.kind ≠ 0 ∧ vright f.2 = true ∧ fright f.1 fs = true := by
  obtain ⟨n, x⟩ := f
  rw [fright]
  simp only [Bool.and_eq_true, decide_eq_true_eq, and_assoc]
end Go.Proofs.Ytlikbiiimhfnkaa
namespace Go.Proofs.Ytlikbiiimhfnkaa
open Go.RowKit
theorem nor {a b : Bool} (h : (!(a || b)) = true) : a = false ∧ b = false := by cases a <;> cases b <;> simp_all
end Go.Proofs.Ytlikbiiimhfnkaa
namespace Go.Proofs.Ytlikbiiimhfnkaa
open Go.RowKit
theorem gl_none {w : World} : GlOK ([] : List (Nat × List Value)) w := fun g cs h => by cases h
theorem fits_vd {w : World} {D : Nat → Prop} {v : Vl} {xs : List Value} (h : Fits w D v.dats xs) : PFit w D (.many (vd v)) (.agg xs.toArray) := ⟨xs, rfl, by rw [← dats_vd]; exact h⟩
theorem true_of {f : FuncId} {ps : List Part} {w : World} {D : Nat → Prop} {vs : List Value} (h : EF Try.prog [] f ps (.part (tP true))) (hD : ∀ g, D g → g < w.heap.size) (hp : PsFit w D ps vs) :
    Calls Try.prog f vs.toArray w fun e w' => e = .returned (.bool true) ∧ Below w.heap.size w w' := by
  refine (h w D vs hD gl_none hp).mono ?_
  rintro e w' ⟨v, y, rfl, rfl, hb, hv⟩
  have hv1 : Lies w' _ (.cell (.bool true)) v := hv (fun _ => 0) (fun _ => undef)
  exact ⟨by rw [hv1.cell_eq], hb⟩
theorem tells_any (hP : ProgE) (w : World) (D : Nat → Prop) (hD : ∀ g, D g → g < w.heap.size) {a b : Vl} {xs ys : List Value} (ha : Fits w D a.dats xs) (hb : Fits w D b.dats ys) (fa : a.Fine) (fb : b.Fine) :
    Calls Try.prog 3 #[.agg xs.toArray, .agg ys.toArray] w fun e w' => e = .returned (.bool true) ∧ Below w.heap.size w w' :=
  true_of (tells_ef hP a b fa fb) hD ⟨fits_vd ha, fits_vd hb, trivial⟩
end Go.Proofs.Ytlikbiiimhfnkaa
