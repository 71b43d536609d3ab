/- Part 9 of what the last text of this claim is proved by: walks over the program, and the math behind them. Conditions: as each theorem says. -/
import Derived.Test.YtfcjeciepadmeaaGreatDoorTx08
import Derived.Lib.AppendStr
import Derived.Lib.Builder
import Derived.Test.YtfcjeciepadmeaaGreatDoorProg
import Derived.Laws.BytesArg
import Derived.WalkSpells
import Derived.WalkLawsBesides
import Derived.Laws.Strings3
import Derived.Lib.BufferWrite
import Derived.Lib.UnsafeStr
import Derived.Laws.MakeOwn
import Derived.OwnWalk
import Derived.Lib.IndexMore
import Derived.Lib.IndexLaws
namespace Go.Proofs.YtfcjeciepadmeaaGreatDoor
open Go.RowKit
theorem Cap.ren_id (c : Cap) : c.ren (fun b => b) = c := by cases c <;> rfl
theorem caps_ren_id (l : List Cap) : l.map (Cap.ren fun b => b) = l := by
  induction l with
  | nil => rfl
  | cons c l ih => rw [List.map_cons, ih, Cap.ren_id]
theorem IV.ren_id (x : IV) : x.ren (fun b => b) (fun r => r) = x := by
  induction x with
  | opt g x ih => unfold IV.ren; rw [ih]
  | clo fn fs cs => unfold IV.ren; rw [caps_ren_id, caps_ren_id]
  | _ => rfl
theorem ivs_ren_id (l : List IV) : l.map (·.ren (fun b => b) (fun r => r)) = l := by
  induction l with
  | nil => rfl
  | cons c l ih => rw [List.map_cons, ih, IV.ren_id]
theorem renB_id (B : BL) : renB (fun b => b) (fun r => r) B = B := by
  unfold renB
  induction B with
  | nil => rfl
  | cons x B ih => rw [List.map_cons, ih, ivs_ren_id]
theorem renR_id (R : RL) : renR (fun r => r) R = R := by
  unfold renR
  induction R with
  | nil => rfl
  | cons x B ih => rw [List.map_cons, ih]
def LentI (B : BL) (R : RL) (B0 : BL) (R0 : RL) : Prop := (∀ b x, lk b B0 = some x → lk b B = some x) ∧ ∀ r x, lk r R0 = some x → lk r R = some x
theorem LentI.lent {B : BL} {R : RL} {B0 : BL} {R0 : RL} (h : LentI B R B0 R0) : Lent B R (fun b => b) (fun r => r) B0 R0 := ⟨fun b x hx => by rw [ivs_ren_id]; exact h.1 b x hx, h.2, fun _ _ _ _ e => e, fun _ _ _ _ e => e⟩
def LentB (B : BL) : BL → Prop
  | [] => True
  | (b, x) :: l => lk b B = some x ∧ LentB B l
def LentR (R : RL) : RL → Prop
  | [] => True
  | (r, x) :: l => lk r R = some x ∧ LentR R l
theorem LentB.get {B : BL} : ∀ {B0 : BL} (_ : LentB B B0) {b : Nat} {x : Bx}, lk b B0 = some x → lk b B = some x
  | (c, y) :: l, h, b, x, hx => by
    rcases lk_cons hx with ⟨rfl, rfl⟩ | ⟨_, hx⟩
    · exact h.1
    · exact LentB.get h.2 hx
  | [], _, _, _, hx => by cases hx
theorem LentR.get {R : RL} : ∀ {R0 : RL} (_ : LentR R R0) {b : Nat} {x : Rw}, lk b R0 = some x → lk b R = some x
  | (c, y) :: l, h, b, x, hx => by
    rcases lk_cons hx with ⟨rfl, rfl⟩ | ⟨_, hx⟩
    · exact h.1
    · exact LentR.get h.2 hx
  | [], _, _, _, hx => by cases hx
section
variable {P : Program} {cx : Cx} {T : TL} {B : BL} {R : RL} {o : Oper}
def Tidy (B0 : BL) (R0 : RL) (y : IV) (B1 : BL) (R1 : RL) : Prop := names B1 = names B0 ∧ names R1 = names R0 ∧ binB (names B0) (names R0) B1 = true ∧ y.bin (names B0) (names R0) = true
theorem e_calli {ops : Array Oper} {Q : Exit → Act → World → Prop} {l : List Oper} {d : Nat} {f : FuncId} {xs : List Operand} {ts : Array TypeId} {ys : List IV} {B0 : BL} {R0 : RL} {Y : IV → BL → RL → Prop} (hg : o.guard = none) (hd : o.dst = some d) (hn : Nat.blt d cx.n = true) (ho : o.op = .call { callee := .value (.func f), args := xs.toArray, argTypes := ts }) (hc : callable P f = true)
    (hf : EG P cx.gl f ys B0 R0 Y) (hB : LentB B B0) (hR : LentR R R0) (hx : KnX T xs ys) (hY : ∀ y B1 R1, Y y B1 R1 → Tidy B0 R0 y B1 R1)
    (hE : ∀ y B1 R1, Y y B1 R1 → E cx ((d, y) :: killTL (names R0) T) (B1 ++ killBL (names R0) B) (R1 ++ R) (wpList P ops Q l)) : E cx T B R (wpList P ops Q (o :: l)) :=
  e_callx (fun b => b) (fun r => r) hg hd hn ho hc (LentI.lent ⟨fun _ _ h => hB.get h, fun _ _ h => hR.get h⟩) (by rw [ivs_ren_id]; exact hx) hf hY fun y B1 R1 hy => by
    rw [IV.ren_id, renB_id, renR_id, List.map_id']
    exact hE y B1 R1 hy
theorem e_callci {ops : Array Oper} {Q : Exit → Act → World → Prop} {l : List Oper} {d : Nat} {f : FuncId} {x : Operand} {xs : List Operand} {ts : Array TypeId} {fs cs : List Cap} {zs ys : List IV} {B0 : BL} {R0 : RL} {Y : IV → BL → RL → Prop} (hg : o.guard = none) (hd : o.dst = some d) (hn : Nat.blt d cx.n = true) (ho : o.op = .call { callee := .value x, args := xs.toArray, argTypes := ts }) (hc : callable P f = true)
    (hf : EG P cx.gl f ys B0 R0 Y) (hB : LentB B B0) (hR : LentR R R0) (hx : Kn T x (.clo (.func f) fs cs)) (hxs : KnX T xs zs) (hys : ys = fs.map Cap.iv ++ zs ++ cs.map Cap.iv) (hY : ∀ y B1 R1, Y y B1 R1 → Tidy B0 R0 y B1 R1)
    (hE : ∀ y B1 R1, Y y B1 R1 → E cx ((d, y) :: killTL (names R0) T) (B1 ++ killBL (names R0) B) (R1 ++ R) (wpList P ops Q l)) : E cx T B R (wpList P ops Q (o :: l)) :=
  e_callc (fun b => b) (fun r => r) hg hd hn ho hc (LentI.lent ⟨fun _ _ h => hB.get h, fun _ _ h => hR.get h⟩) hx hxs (by rw [ivs_ren_id]; exact hys) hf hY fun y B1 R1 hy => by
    rw [IV.ren_id, renB_id, renR_id, List.map_id']
    exact hE y B1 R1 hy
abbrev ER (P : Program) (gls : List (Nat × List Value)) (f : FuncId) (ds : List Dat) (ps : List Part) (cs : List Value) : Prop := EG P gls f (.ref ds :: ps.map .part) [] [] fun y B1 R1 => y = .part (.many (cs.map .cell)) ∧ B1 = [] ∧ R1 = []
theorem fits_cells (w : World) (D : Nat → Prop) (cs : List Value) : Fits w D (cs.map .cell) cs := by
  induction cs with
  | nil => exact Fits.nil _ _
  | cons c cs ih => exact .cons (.cell c) ih
theorem vrs_of {w : World} {D : Nat → Prop} {M : Nat → Nat} {V : Nat → Value} : ∀ {ps : List Part} {vs : List Value}, PsFit w D ps vs → VRs w D M V (ps.map .part) vs
  | [], [], _ => trivial
  | _ :: _, _ :: _, h => ⟨h.1, vrs_of h.2⟩
  | [], _ :: _, h => h.elim
  | _ :: _, [], h => h.elim
theorem bor_nil {M : Nat → Nat} {V : Nat → Value} {g : Nat} : ¬ Bor [] [] M V g := fun h => by
  rcases h with ⟨_, _, h, _⟩ | ⟨_, _, h, _⟩ <;> cases h
theorem s_callr {f : FuncId} {x : Operand} {xs : List Operand} {ts : Array TypeId} {b : Nat} {bx : Bx} {ds : List Dat} {ps : List Part} {cs : List Value} (ho : o.op = .call { callee := .value (.func f), args := (x :: xs).toArray, argTypes := ts }) (hc : callable P f = true) (hf : ER P cx.gl f ds ps cs) (hx : Kn T x (.box b 0)) (hb : lk b B = some bx) (hm : manyOf bx.cs = some ds) (hxs : KnA T xs ps) : LStep P cx B R o T (.part (.many (cs.map .cell))) := fun M V w a hh ht => by
  have hkk : ∀ y z, y ∈ x :: xs → Kn T y z → VR w (Dc cx B R M V w) M V z (a.eval y) := fun y z hm hkx => hkx w _ M V a fun t z' e hz => ht t z' (by
    subst e
    rw [ho]
    simpa [Op.operands, Call.operands] using hm) hz
  have hrun : (execOp a.eval o).run P w = .ok (.enter f ((x :: xs).map a.eval).toArray) w := by
    have he : a.eval (.func f) = .func (.func f) #[] #[] := rfl
    simp [execOp, ho, resolve, he, Deferred.ofValue, invoke, run_callable hc]
  rw [hrun]
  have hxv : a.eval x = .pointer (some ⟨M b, 0, none⟩) := hkk x _ (by simp) hx
  obtain ⟨hown, cells, hblk, hfit⟩ := hh.box b bx hb
  have hlt := hblk.lt
  have hD : ∀ g, Dc cx B R M V w g → g < w.heap.size := fun g hg => hh.dlt hg
  have hps : PsFit w (Dc cx B R M V w) ps (xs.map a.eval) := hxs.fit fun y z hm hkx => hkk y z (by simp [hm]) hkx
  have hcells : Fits w (Dc cx B R M V w) ds cells := manyOf_fit hm hfit.1 fun j y v h1 h2 => (hfit.2 j y v h1 h2).1
  let D' : Nat → Prop := fun g => Dc cx B R M V w g ∨ g = M b
  have hk := Keeps.refl (Dc cx B R M V w) w
  have hD' : ∀ g, D' g → g < w.heap.size := fun g hg => by
    rcases (show Dc cx B R M V w g ∨ g = M b from hg) with hg | rfl
    · exact hD g hg
    · exact hlt
  have hHR : HR (lcx w D' 0 cx.gl [] [] M V) [] [] M V w :=
    ⟨Bex.refl _ _, fun g hg => ⟨hD' g hg, bor_nil⟩, fun g h => (bor_nil h).elim, fun g cs hg => ⟨⟨(hh.glok g cs hg).1, bor_nil⟩, (hh.glok g cs hg).2⟩, fun _ _ h => (by cases h), fun _ _ h => (by cases h), fun _ _ _ h => (by cases h), fun _ h => (by cases h), fun _ _ _ _ h => (by cases h), fun _ _ _ _ _ h => (by cases h), fun _ _ _ _ _ h => (by cases h)⟩
  have hVR : VRs w (Dc (lcx w D' 0 cx.gl [] [] M V) [] [] M V w) M V (.ref ds :: ps.map .part) ((x :: xs).map a.eval) := by
    refine ⟨⟨M b, 0, hxv, .inl (.inr rfl), cells, hcells.stay hk fun g hg => .inl (.inl hg), fun j v hv => ?_⟩, (vrs_of hps).stay hk fun g hg => .inl (.inl hg)⟩
    rw [Nat.zero_add, hblk.cell]
    exact hv
  refine ⟨rfl, (hf w D' M V _ 0 hHR hVR).mono fun e w' ⟨v, y, B1, R1, M1, V1, h1, ⟨h2, _, _⟩, h4, h5⟩ => ?_⟩
  subst h2
  have hbl : Below w.heap.size w w' := by
    have h6 := h4.below
    have h7 : Bex (fun _ => False) w w' := ⟨h6.os, h6.tape, h6.output, h6.size, fun k hk _ => h6.block k hk bor_nil⟩
    exact h7.below
  have h8 := many_cells h5
  exact ⟨v, h1, hbl, ⟨cs, h8, fits_cells _ _ _⟩⟩
end
end Go.Proofs.YtfcjeciepadmeaaGreatDoor
namespace Go.Proofs.YtfcjeciepadmeaaGreatDoor
open Go.RowKit
section
variable {P : Program} {cx : Cx} {T : TL} {B : BL} {R : RL} {o : Oper}
theorem run_append_text (w : World) (t u ty e : TypeId) (ht : P.underlying t = some (.slice e)) (hu : P.underlying u = some .string) (hz : (P.info? e).map (fun i => (i.zero, i.size, i.bytes)) = some (some (.int .u8 0), 1, 1)) (v : Value) (n : Nat) (xs : List Value) (hown : w.ownsRow 0 e 1 v n xs) (s : ByteArray) (hs : n + s.size ≤ 140737488355328) :
    ∃ v' w', (Builtin.append_ #[t, u] ty #[v, .string s]).run P w = .ok v' w' ∧ w'.ownsRow 0 e 1 v' (n + s.size) (xs ++ Lib.strCells s) ∧ w.grownBy w' v.ownBlock ∧ (v'.ownBlock = v.ownBlock ∨ v'.ownBlock = some w.heap.size) := by
  obtain ⟨i, hi, hi2⟩ := Option.map_eq_some_iff.1 hz
  simp only [Prod.mk.injEq] at hi2
  obtain ⟨z1, z2, z3⟩ := hi2
  obtain ⟨v', w', h1, h2, h3, h4⟩ := Lib.run_append_own_string (P := P) w 0 t u ty e i ht hu hi z1 z2 z3 v n xs hown s (by unfold maxLen; omega) hs (Nat.zero_le _)
  refine ⟨v', w', h1, h2, h3, ?_⟩
  have hxl : xs.length = n := by simpa using hown.1
  rcases hown.2 with ⟨rfl, rfl⟩ | ⟨g, cap, cur, rfl, _, hg, hnc, hcm, hcs, htake⟩
  · by_cases hm : s.size = 0
    · rw [h4.2 ⟨rfl, hm⟩]
      exact .inl rfl
    · have hr := run_append_nil_string (P := P) w t u ty e i (.int .u8 0) ht hu hi z1 s (by omega) (by omega) (by rw [z3]; omega)
      rw [h1] at hr
      injection hr with hv _
      rw [hv]
      exact .inr rfl
  · by_cases hroom : n + s.size ≤ cap
    · have hr := Lib.run_append_room_string (P := P) w t u ty e i ht hu hi z2 g n cap cur hg s hroom (by simp at hcs; omega)
      rw [h1] at hr
      injection hr with hv _
      rw [hv]
      exact .inl rfl
    · have holds : ∀ j u, xs[j]? = some u → w.cell? ((⟨g, 0, none⟩ : Addr).add j) = some u := hown.cells (g := g) rfl
      have hr := Lib.run_append_grow_string (P := P) w t u ty e i (.int .u8 0) ht hu hi z1 ⟨g, 0, none⟩ n cap xs (by rw [z2]; simpa using hxl) holds s (by omega) (by omega) (by rw [z3]; exact growslice_fits (by omega) (by omega))
      rw [h1] at hr
      injection hr with hv _
      rw [hv]
      exact .inr rfl
theorem e_append_str {ops : Array Oper} {Q : Exit → Act → World → Prop} {l : List Oper} {d : Nat} {x y : Operand} {t u : TypeId} {r n : Nat} {ty : TypeId} {ds : List Dat} {s : List UInt8} (hg : o.guard = none) (hd : o.dst = some d) (hn : Nat.blt d cx.n = true) (ho : o.op = .call { callee := .builtin .append, args := #[x, y], argTypes := #[t, u] }) (hx : Kn T x (.own r)) (hr : lk r R = some ⟨ty, 1, n, ds, false⟩) (hy : Kn T y (.is (.string (str s))))
    (ht : P.underlying t = some (.slice ty)) (hu : P.underlying u = some .string) (hz : (P.info? ty).map (fun i => (i.zero, i.size, i.bytes)) = some (some (.int .u8 0), 1, 1)) (hb1 : n + s.length ≤ 140737488355328)
    (hE : E cx ((d, .own r) :: killT r T) (killB r B) ((r, ⟨ty, 1, n + s.length, ds ++ s.map fun b => .cell (bv b), false⟩) :: R) (wpList P ops Q l)) : E cx T B R (wpList P ops Q (o :: l)) := fun M V a w hrel => by
  refine wpList_plain hg fun K hK => ?_
  have hh := hrel.heap
  have hxv : a.eval x = V r := hx w (Dc cx B R M V w) M V a fun t z _ hz => hrel.tmp t z hz
  have hyv : a.eval y = .string (str s) := Lies.cell_eq (hy w (Dc cx B R M V w) M V a fun t z _ hz => hrel.tmp t z hz)
  have hrow := hh.row r _ hr
  obtain ⟨xs, hown, hfx⟩ : Gr w (Dc cx B R M V w) 0 ty 1 (V r) n ds := hrow
  have hro : ∀ g, (V r).ownBlock = some g → cx.w0.heap.size ≤ g ∨ cx.bor g := fun g hg => hh.ro r _ g hr rfl hg
  have hsz : (str s).size = s.length := strSize s
  have hcells : Lib.strCells (str s) = s.map bv := by
    unfold Lib.strCells str bv
    simp
  obtain ⟨v', w', hrun, hown', hgr, hblk⟩ := run_append_text (P := P) w t u o.type ty ht hu hz (V r) n xs hown (str s) (by omega)
  rw [hsz, hcells] at hown'
  have hfe : Fits w (Dc cx B R M V w) (s.map fun b => .cell (bv b)) (s.map bv) := by
    have := fits_cells w (Dc cx B R M V w) (s.map bv)
    rwa [List.map_map] at this
  have hDne : ∀ g, Dc cx B R M V w g → some g ≠ (V r).ownBlock := fun g hg e => by
    rcases hg with hg | ⟨_, _, _, a4⟩
    · have := hh.d0 g hg
      rcases hro g e.symm with h | h
      · omega
      · exact this.2 h
    · exact a4 r _ hr rfl e.symm
  have hkeep : Keeps (Dc cx B R M V w) w w' := .of_grown hgr (fun g hg => hh.dlt hg) hDne
  let V' : Nat → Value := fun q => if q = r then v' else V q
  have hVr : V' r = v' := if_pos rfl
  have hV : ∀ q, q ≠ r → V' q = V q := fun q h => if_neg h
  have hblt : ∀ c x, lk c B = some x → M c < w.heap.size := fun c x hx => by
    obtain ⟨_, cs, h2, _⟩ := hh.box c x hx
    exact h2.lt
  have hlkB : ∀ c x, lk c (killB r B) = some x → ∃ y, lk c B = some y ∧ x = ⟨y.ty, y.cs.map (·.kill r)⟩ := fun c x hx => by
    unfold killB at hx
    rw [lk_map (fun y : Bx => (⟨y.ty, y.cs.map (·.kill r)⟩ : Bx)), Option.map_eq_some_iff] at hx
    obtain ⟨y, h1, h2⟩ := hx
    exact ⟨y, h1, h2.symm⟩
  have hnew : ∀ g, v'.ownBlock = some g → (V r).ownBlock = some g ∨ g = w.heap.size := fun g hg => by
    rcases hblk with h | h
    · exact .inl (h ▸ hg)
    · rw [h] at hg
      exact .inr (by simpa using hg.symm)
  have hD : ∀ g, Dc cx B R M V w g → Dc cx (killB r B) ((r, ⟨ty, 1, n + s.length, ds ++ s.map fun b => .cell (bv b), false⟩) :: R) M V' w' g := fun g hg => by
    have hgl := hh.dlt hg
    have hgn := hDne g hg
    rcases hg with hg | ⟨a1, a2, a3, a4⟩
    · exact .inl hg
    · refine .inr ⟨a1, by have := hgr.size; omega, fun c x hx => ?_, fun q x hx hf e => ?_⟩
      · obtain ⟨y, hy, _⟩ := hlkB c x hx
        exact a3 c y hy
      · rcases lk_cons hx with ⟨rfl, rfl⟩ | ⟨hne, hx⟩
        · rw [hVr] at e
          rcases hnew g e with e | e
          · exact hgn e.symm
          · omega
        · rw [hV q (Ne.symm hne)] at e
          exact a4 q x hx hf e
  have hrel' : Rel cx ((d, .own r) :: killT r T) (killB r B) ((r, ⟨ty, 1, n + s.length, ds ++ s.map fun b => .cell (bv b), false⟩) :: R) M V' (a.put (some d) v') w' := by
    refine ⟨by simpa [Act.put] using hrel.size, hrel.defers, ⟨hh.below.turn hgr.os hgr.tape hgr.output hgr.size _ hro (fun k hk hne => hgr.block k hk hne), hh.d0, hh.bl, hh.gl, fun c x hx => ?_, fun q x hx => ?_, fun q x g hx hf hg => ?_, hh.pin, fun c e x y hx hy he => ?_, fun c q x y g hx hy hf hg => ?_, fun q p x y g hx hy hf hf' hg hg' => ?_⟩, fun t x hx => ?_⟩
    · obtain ⟨y, hy, rfl⟩ := hlkB c x hx
      obtain ⟨a1, cs, a2, a3⟩ := hh.box c y hy
      refine ⟨a1, cs, a2.grown hgr fun e => hh.br c r y _ (M c) hy hr rfl e.symm rfl, by simpa using a3.1, fun j z u hz hu => ?_⟩
      simp only [List.getElem?_map, Option.map_eq_some_iff] at hz
      obtain ⟨z0, hz0, rfl⟩ := hz
      have := a3.2 j z0 u hz0 hu
      exact ⟨(this.1.kill.newV hV (IV.nor_kill r z0)).stay hkeep hD, this.2⟩
    · rcases lk_cons hx with ⟨rfl, rfl⟩ | ⟨hne, hx⟩
      · rw [hVr]
        have : Gr w' (Dc cx (killB r B) ((r, ⟨ty, 1, n + s.length, ds ++ s.map fun b => .cell (bv b), false⟩) :: R) M V' w') 0 ty 1 v' (n + s.length) (ds ++ s.map fun b => .cell (bv b)) := ⟨_, hown', (hfx.append hfe).stay hkeep hD⟩
        exact this
      · rw [hV q (Ne.symm hne)]
        have h1 := hh.row q x hx
        split
        · rename_i hf
          rw [if_pos hf] at h1
          exact h1.stay hkeep hD
        · rename_i hf
          rw [if_neg hf] at h1
          obtain ⟨ys, a2, a3⟩ := h1
          refine ⟨ys, ownsRow.stay a2 fun g hg => hgr.block g (a2.lt g hg).2 fun e => ?_, a3.stay hkeep hD⟩
          exact hne (hh.rr r q _ x g hr hx rfl (by simpa using hf) e.symm hg)
    · rcases lk_cons hx with ⟨rfl, rfl⟩ | ⟨hne, hx⟩
      · rw [hVr] at hg
        rcases hnew g hg with e | e
        · exact hro g e
        · rw [e]
          exact .inl hh.below.size
      · rw [hV q (Ne.symm hne)] at hg
        exact hh.ro q x g hx hf hg
    · obtain ⟨x', hx', _⟩ := hlkB c x hx
      obtain ⟨y', hy', _⟩ := hlkB e y hy
      exact hh.bb c e x' y' hx' hy' he
    · obtain ⟨x', hx', _⟩ := hlkB c x hx
      rcases lk_cons hy with ⟨rfl, rfl⟩ | ⟨hne, hy⟩
      · rw [hVr] at hg
        rcases hnew g hg with e | e
        · exact hh.br c r x' _ g hx' hr rfl e
        · have := hblt c x' hx'
          omega
      · rw [hV q (Ne.symm hne)] at hg
        exact hh.br c q x' y g hx' hy hf hg
    · have hold : ∀ q x g, q ≠ r → lk q R = some x → x.fz = false → (V q).ownBlock = some g → v'.ownBlock ≠ some g := fun q x g hq hx hf hg e => by
        rcases hnew g e with e | e
        · exact hq (hh.rr q r x _ g hx hr hf rfl hg e)
        · have h1 := hh.row q x hx
          rw [hf] at h1
          obtain ⟨ys, a2, _⟩ := h1
          have := (a2.lt g hg).2
          omega
      rcases lk_cons hx with ⟨rfl, rfl⟩ | ⟨hne, hx⟩
      · rcases lk_cons hy with ⟨rfl, rfl⟩ | ⟨hne', hy⟩
        · rfl
        · rw [hVr] at hg
          rw [hV p (Ne.symm hne')] at hg'
          exact absurd hg (hold p y g (Ne.symm hne') hy hf' hg')
      · rcases lk_cons hy with ⟨rfl, rfl⟩ | ⟨hne', hy⟩
        · rw [hVr] at hg'
          rw [hV q (Ne.symm hne)] at hg
          exact absurd hg' (hold q x g (Ne.symm hne) hx hf hg)
        · rw [hV q (Ne.symm hne)] at hg
          rw [hV p (Ne.symm hne')] at hg'
          exact hh.rr q p x y g hx hy hf hf' hg hg'
    · rw [getD_put a d t _ (by rw [hrel.size]; exact blt_lt hn)]
      rcases lk_cons hx with ⟨rfl, rfl⟩ | ⟨hne, hx⟩
      · rw [if_pos rfl]
        exact hVr.symm
      · rw [if_neg hne]
        unfold killT at hx
        rw [lk_map (fun y : IV => y.kill r), Option.map_eq_some_iff] at hx
        obtain ⟨z0, hz0, rfl⟩ := hx
        exact ((hrel.tmp t z0 hz0).kill.newV hV (IV.nor_kill r z0)).stay hkeep hD
  have := hK _ _ (hE M V' _ _ hrel')
  unfold Oper.wp execOp
  simp only [ho, resolve, invoke, builtin, Sem.run_bind, Sem.run_pure, Result.andThen_ok, List.map_toArray, List.map_cons, List.map_nil, hxv, hyv, hrun]
  simp only [Oper.upon, hd]
  exact this
theorem blk_shape {w : World} {g : Nat} {t : TypeId} {cs : List Value} (h : Blk w g t cs) : w.shape? g = some (t, cs.length) := by
  unfold Blk at h
  simp [World.shape?, h]
theorem s_toU {x : Operand} {src dst t : TypeId} {b : Nat} {bx : Bx} (ho : o.op = .convert src dst x) (hx : Kn T x (.box b 0)) (hb : lk b B = some bx) (hs : P.underlying src = some (.pointer t)) (hd : P.underlying dst = some .unsafePointer) (hz : (P.info? t).map (fun i => Nat.beq i.size 0) = some false) (hl : Nat.blt 0 bx.cs.length = true) : LStep P cx B R o T (.box b 0) := LStep.same fun M V w a hh hk => by
  have h1 : a.eval x = .pointer (some ⟨M b, 0, none⟩) := hk x _ (by simp [ho, Op.operands]) hx
  obtain ⟨_, cells, hblk, hfit⟩ := hh.box b bx hb
  obtain ⟨j, hj, hj2⟩ := Option.map_eq_some_iff.1 hz
  have hlen : 0 < cells.length := by rw [← hfit.1]; exact blt_lt hl
  have h2 := Lib.run_to_unsafe (P := P) (w := w) ⟨M b, 0, none⟩ hs hd hj (fun e => by rw [e] at hj2; cases hj2) (blk_shape hblk) hlen
  exact ⟨_, by simp [execOp, ho, h1, h2], rfl⟩
theorem s_fromU {x : Operand} {src dst u : TypeId} {b : Nat} {bx : Bx} (ho : o.op = .convert src dst x) (hx : Kn T x (.box b 0)) (hb : lk b B = some bx) (hs : P.underlying src = some .unsafePointer) (hd : P.underlying dst = some (.pointer u)) (hz : (P.info? u).isSome = true) (hl : liesAt P P.depth bx.ty (bx.cs.length / P.cellsOf bx.ty) 0 u 1 = true) : LStep P cx B R o T (.box b 0) := LStep.same fun M V w a hh hk => by
  have h1 : a.eval x = .pointer (some ⟨M b, 0, none⟩) := hk x _ (by simp [ho, Op.operands]) hx
  obtain ⟨_, cells, hblk, hfit⟩ := hh.box b bx hb
  obtain ⟨j, hj⟩ := Option.isSome_iff_exists.1 hz
  have h2 := Lib.run_from_unsafe (P := P) (w := w) ⟨M b, 0, none⟩ hs hd hj (blk_shape hblk) (by rw [← hfit.1]; exact hl)
  exact ⟨_, by simp [execOp, ho, h1, h2], rfl⟩
theorem s_same {f : FuncId} {x : Operand} {ts : Array TypeId} {y : IV} (ho : o.op = .call { callee := .value (.func f), args := #[x], argTypes := ts }) (hf : ∀ (v : Value) (w : World), (callFunc f #[v]).run P w = .ok (.value v) w) (hx : Kn T x y) : LStep P cx B R o T y := LStep.same fun M V w a _ hk => by
  have h1 := hk x _ (by simp [ho, Op.operands, Call.operands]) hx
  have he : a.eval (.func f) = .func (.func f) #[] #[] := rfl
  exact ⟨_, by simp [execOp, ho, resolve, he, Deferred.ofValue, invoke, hf], h1⟩
theorem binv_box {t te : TypeId} (p : Addr) (hp : P.underlying t = some (.pointer te)) (hz : (P.info? te).isSome = true) : BinV P .neq t (.pointer (some p)) (.pointer (some p)) (.bool false) := fun x y w => by
  obtain ⟨j, hj⟩ := Option.isSome_iff_exists.1 hz
  rw [Sem.run_bind, show (eqGuard .neq t x y (.pointer (some p)) (.pointer (some p))).run P w = .ok () w by simp [eqGuard], Result.andThen_ok]
  exact Lib.run_neq_ptr_same (P := P) (w := w) p hp hj
theorem binv_nil {t : TypeId} (p : Option Addr) (h : P.underlying t = some (.pointer (P.pointee t))) : BinV P .eql t (.pointer p) (.pointer none) (.bool p.isNone) := fun x y w => by
  rw [Sem.run_bind, show (eqGuard .eql t x y (.pointer p) (.pointer none)).run P w = .ok () w by simp [eqGuard], Result.andThen_ok]
  exact run_eql_pointer_nil (P := P) w t p h
theorem s_binw {x y : Operand} {op : BinOp} {t t' : TypeId} {r : Value} (ho : o.op = .binOp op t x y t') (h : ∀ (M : Nat → Nat) (V : Nat → Value) (w : World) (a : Act), (∀ z u, z ∈ o.op.operands → Kn T z u → VR w (Dc cx B R M V w) M V u (a.eval z)) → BinV P op t (a.eval x) (a.eval y) r) : LStep P cx B R o T (.is r) := LStep.same fun M V w a _ hk => by
  refine ⟨r, ?_, .cell r⟩
  have := h M V w a hk x y w
  unfold execOp
  simp only [ho]
  rw [Sem.run_bind, this]
  rfl
theorem s_box_neq {x y : Operand} {t t' te : TypeId} {b : Nat} (ho : o.op = .binOp .neq t x y t') (hx : Kn T x (.box b 0)) (hy : Kn T y (.box b 0)) (hp : P.underlying t = some (.pointer te)) (hz : (P.info? te).isSome = true) : LStep P cx B R o T (.is (.bool false)) := s_binw ho fun M V w a hk => by
  have h1 : a.eval x = .pointer (some ⟨M b, 0, none⟩) := hk x _ (by simp [ho, Op.operands]) hx
  have h2 : a.eval y = .pointer (some ⟨M b, 0, none⟩) := hk y _ (by simp [ho, Op.operands]) hy
  rw [h1, h2]
  exact binv_box _ hp hz
theorem s_ptr_nil {x : Operand} {t t' : TypeId} (ho : o.op = .binOp .eql t x (.const (.pointer none)) t') (hx : Kn T x (.is (.pointer none))) (hp : P.underlying t = some (.pointer (P.pointee t))) : LStep P cx B R o T (.is (.bool true)) := s_binw ho fun M V w a hk => by
  have h1 := (hk x _ (by simp [ho, Op.operands]) hx).is_eq
  rw [h1]
  exact binv_nil none hp
theorem s_ptr_box {x : Operand} {t t' : TypeId} {b j : Nat} (ho : o.op = .binOp .eql t x (.const (.pointer none)) t') (hx : Kn T x (.box b j)) (hp : P.underlying t = some (.pointer (P.pointee t))) : LStep P cx B R o T (.is (.bool false)) := s_binw ho fun M V w a hk => by
  have h1 : a.eval x = .pointer (some ⟨M b, j, none⟩) := hk x _ (by simp [ho, Op.operands]) hx
  rw [h1]
  exact binv_nil (some _) hp
end
end Go.Proofs.YtfcjeciepadmeaaGreatDoor
namespace Go.Proofs.YtfcjeciepadmeaaGreatDoor
open Go.RowKit
theorem str_index (l : List UInt8) (i : Nat) (h : i < l.length) (u : World) : (Instr.index 9 (.string (str l)) (.int .i64 (i : Int))).run Tryz.prog u = .ok (.int .u8 (l[i].toNat : Int)) u := by
  rw [run_index_string (P := Tryz.prog) u 9 (str l) .i64 i Tryz.underlying9, dif_pos ⟨by omega, by rw [strSize]; omega⟩]
  rfl
theorem str_from (l : List UInt8) (k : Nat) (h : k ≤ l.length) (u : World) : (Instr.slice 9 (.string (str l)) (some (.int .i64 (k : Int))) none none).run Tryz.prog u = .ok (.string (str (l.drop k))) u := by
  rw [run_slice_string_from_if (P := Tryz.prog) u 9 (str l) .i64 k Tryz.underlying9, if_pos ⟨by omega, by rw [strSize]; omega⟩, str_extract, strSize, Int.toNat_natCast, List.take_of_length_le (by rw [List.length_drop]; omega)]
theorem str_upto (l : List UInt8) (k : Nat) (h : k ≤ l.length) (u : World) : (Instr.slice 9 (.string (str l)) none (some (.int .i64 (k : Int))) none).run Tryz.prog u = .ok (.string (str (l.take k))) u := by
  rw [run_slice_string_to_if (P := Tryz.prog) u 9 (str l) .i64 k Tryz.underlying9, if_pos ⟨by omega, by rw [strSize]; omega⟩, str_extract, Int.toNat_natCast, List.drop_zero, Nat.sub_zero]
theorem str_mid (l : List UInt8) (j k : Nat) (hj : j ≤ k) (h : k ≤ l.length) (u : World) : (Instr.slice 9 (.string (str l)) (some (.int .i64 (j : Int))) (some (.int .i64 (k : Int))) none).run Tryz.prog u = .ok (.string (str ((l.drop j).take (k - j)))) u := by
  rw [run_slice_string (P := Tryz.prog) u 9 (str l) .i64 .i64 j k Tryz.underlying9 (by omega) (by omega) (by rw [strSize]; omega), str_extract, Int.toNat_natCast, Int.toNat_natCast]
end Go.Proofs.YtfcjeciepadmeaaGreatDoor
namespace Go.Proofs.YtfcjeciepadmeaaGreatDoor
open Go.RowKit
theorem infoByteC : (Tryz.prog.info? 5).map (fun i => (i.zero, i.size, i.bytes)) = some (some (.int .u8 0), 1, 1) := by kernel_rfl
theorem cellByteC : Tryz.prog.cellsOf 5 = 1 := by kernel_rfl
set_option maxRecDepth 100000 in
set_option maxHeartbeats 2000000 in
theorem cloneIn_any (w : World) (l : List UInt8) (hl : l.length ≤ 140737488351232) :
    Calls Tryz.prog 107 #[.string (str l)] w fun e w' => e = .returned (.string (str l)) ∧ Below w.heap.size w w' := by
  by_cases h0 : l = []
  · subst h0
    have hz : (str []).size = 0 := rfl
    go_enter Tryz.func107, Tryz.ntmps107
    go_wp2
    go_ret
    exact ⟨rfl, Below.refl _ _⟩
  · obtain ⟨i, hi, hz0, hz1, hz2⟩ := info_parts infoByteC
    have hpos : 0 < l.length := List.length_pos_iff.2 h0
    have hz : (str l).size = l.length := strSize l
    obtain ⟨M, hM⟩ : ∃ M, M = madeCells (Value.int .u8 0).cells (((l.length : Nat) : Int).toNat * i.size) := ⟨_, rfl⟩
    have hMs : M.size = l.length := by rw [hM, size_madeCells, hz1]; simp
    have hmk : ∀ W : World, (Instr.makeSlice 100 (.int .i64 (l.length : Int)) (.int .i64 (l.length : Int))).run Tryz.prog W = .ok (.slice (some ⟨W.heap.size, 0, none⟩) l.length l.length) (W.alloc (.cells M 5)) := fun W => by
      have h := run_make (P := Tryz.prog) W 100 5 i (.int .u8 0) Tryz.underlying100 hi hz0 .i64 .i64 (l.length : Int) (l.length : Int) (by omega) (by omega) (by rw [hz2]; omega) (by omega)
      rw [← hM] at h
      simpa using h
    clear hM
    have hcp := Lib.run_copy_row_string (P := Tryz.prog) (w.alloc (.cells M 5)) 100 9 3 5 w.heap.size 0 l.length l.length (str l) M 5 Tryz.underlying100 (by rw [hi]; simp [hz1]) (heap_alloc_new w _) (by rw [hz]; exact Nat.le_refl _) (by rw [hz]; omega)
    rw [hz] at hcp
    obtain ⟨Y, hY⟩ : ∃ Y, Y = (M.toList.take 0 ++ Lib.byteCells (str l).data.toList ++ M.toList.drop (0 + l.length)).toArray := ⟨_, rfl⟩
    rw [← hY] at hcp
    have hYl : Y = (l.map bv).toArray := by
      rw [hY, List.take_zero, List.nil_append, List.drop_of_length_le (by rw [Array.length_toList]; omega), List.append_nil]
      rfl
    clear hY
    obtain ⟨V, hV⟩ : ∃ V, V = (w.alloc (.cells M 5)).setRow w.heap.size Y := ⟨_, rfl⟩
    rw [← hV] at hcp
    have hk : Blk V w.heap.size 5 (l.map bv) := by
      unfold Blk
      rw [hV, ← hYl]
      exact setRow_heap _ _ M _ 5 (0, 0) (heap_alloc_new w _)
    have hus : (Builtin.unsafeString_ #[205, 3] 9 #[.pointer (some ⟨w.heap.size, 0, none⟩), .int .i64 (l.length : Int)]).run Tryz.prog V = .ok (.string (str l)) (V.freeze ⟨w.heap.size, 0, none⟩ l.length) :=
      Lib.run_unsafeString_row V _ _ _ 5 Tryz.underlying205 cellByteC w.heap.size (l.map bv).length (by unfold World.shape?; rw [hk]; simp) l h0 (by simp) (by omega) fun j x hx => by
        rw [Addr.add_lit, Nat.zero_add, hk.cell, List.getElem?_map, hx]
        rfl
    have hb : Below w.heap.size w V := by
      rw [hV]
      exact ((Below.refl _ w).alloc (Nat.le_refl _) _).trans ⟨rfl, rfl, rfl, by simp, fun k hk => setRow_other _ _ _ _ (by omega)⟩
    have HB := Lib.hid (Lib.below_freeze hb (p := ⟨w.heap.size, 0, none⟩) (Nat.le_refl _) l.length)
    clear hb hk hV hYl hi hz0 hz1 hz2 hMs h0
    have hne : ¬ (l.length : Int) = 0 := by omega
    have hne2 : ((l.length : Int) == 0) = false := by simpa using hne
    go_enter Tryz.func107, Tryz.ntmps107
    go_wp2
    go_ret
    exact ⟨rfl, HB.out⟩
set_option maxRecDepth 100000 in
theorem clone_any (w : World) (l : List UInt8) (hl : l.length ≤ 140737488351232) :
    Calls Tryz.prog 81 #[.string (str l)] w fun e w' => e = .returned (.string (str l)) ∧ Below w.heap.size w w' := by
  go_enter Tryz.func81, Tryz.ntmps81
  go_wp2_with fail
  refine (cloneIn_any w l hl).mono ?_
  rintro e w1 ⟨rfl, hb⟩
  go_wp2_with fail
  go_ret
  exact ⟨rfl, hb⟩
end Go.Proofs.YtfcjeciepadmeaaGreatDoor
namespace Go.Proofs.YtfcjeciepadmeaaGreatDoor
open Go Go.Lib
def lxGap (b : UInt8) : Bool := b == 32 || b == 9 || b == 13 || b == 10
def lxLet (b : UInt8) : Bool := decide (97 ≤ b.toNat ∧ b.toNat ≤ 122) || decide (65 ≤ b.toNat ∧ b.toNat ≤ 90) || b == 95
def lxFig (b : UInt8) : Bool := decide (48 ≤ b.toNat ∧ b.toNat ≤ 57)
def lxIn (b : UInt8) : Bool := lxLet b || lxFig b
def lxQuote (b : UInt8) : Bool := b == 34 || b == 39
def signs : List UInt8 := [123, 125, 91, 93, 60, 62, 40, 41, 59, 61, 44, 46, 45]
def lxSign (b : UInt8) : Bool := signs.contains b
def ldig (b : UInt8) : Nat :=
  if 48 ≤ b.toNat ∧ b.toNat ≤ 57 then b.toNat - 48 else if 97 ≤ b.toNat ∧ b.toNat ≤ 102 then b.toNat - 97 + 10
  else if 65 ≤ b.toNat ∧ b.toNat ≤ 70 then b.toNat - 65 + 10 else 16
def lspan (p : UInt8 → Bool) : List UInt8 → Nat
  | [] => 0
  | b :: l => if p b then lspan p l + 1 else 0
theorem lspan_le (p : UInt8 → Bool) : ∀ l, lspan p l ≤ l.length
  | [] => Nat.le_refl _
  | b :: l => by
    have := lspan_le p l
    unfold lspan
    split <;> simp <;> omega
theorem lspan_eq {p : UInt8 → Bool} : ∀ {l : List UInt8} {i : Nat}, i ≤ l.length → (∀ j b, j < i → l[j]? = some b → p b = true) → (∀ b, l[i]? = some b → p b = false) → lspan p l = i
  | [], i, hi, _, _ => by
    have : i = 0 := by simpa using hi
    subst this; rfl
  | b :: l, 0, _, _, hs => by
    have := hs b (by simp)
    simp [lspan, this]
  | b :: l, i + 1, hi, hj, hs => by
    have h0 := hj 0 b (by omega) (by simp)
    have := lspan_eq (p := p) (l := l) (i := i) (by simpa using hi) (fun j c h hc => hj (j + 1) c (by omega) (by simpa using hc)) (fun c hc => hs c (by simpa using hc))
    simp [lspan, h0, this]
theorem lspan_pos {p : UInt8 → Bool} {b : UInt8} {l : List UInt8} (h : p b = true) : lspan p (b :: l) = lspan p l + 1 := by simp [lspan, h]
def lval (base : Nat) (ds : List UInt8) : Nat := ds.foldl (fun n b => n * base + ldig b) 0
def lnb (base : Nat) (ds : List UInt8) : Nat × Nat :=
  if ds = [] ∨ (ds.all fun b => decide (ldig b < base)) = false then (0, 9) else if 2147483647 < lval base ds then (0, 1) else (lval base ds, 0)
def lnum (l : List UInt8) : Nat × Nat :=
  if l.take 2 = [48, 120] ∨ l.take 2 = [48, 88] then lnb 16 (l.drop 2) else if l.head? = some 48 then lnb 8 l else lnb 10 l
def lclosed (k : Nat) (e l : List UInt8) : Nat × Nat := if index (l.drop k) e < 0 then (0, 9) else (k + (index (l.drop k) e).toNat + e.length, 0)
def noLF (b : UInt8) : Bool := b != 10
def lcut (l : List UInt8) : Nat × Nat × Nat :=
  if lxGap (l.headD 0) then (0, lspan lxGap l, 0)
  else if l.take 2 = [47, 47] then (0, lspan noLF l, 0)
  else if l.take 2 = [47, 42] then (0, lclosed 2 [42, 47] l)
  else if lxLet (l.headD 0) then (1, lspan lxIn l, 0)
  else if lxFig (l.headD 0) then (2, lspan lxIn l, 0)
  else if lxQuote (l.headD 0) then (3, lclosed 1 [l.headD 0] l)
  else if lxSign (l.headD 0) then (4, 1, 0)
  else (0, 0, 9)
structure Tok where
  k : Nat
  t : List UInt8
  n : Nat
deriving DecidableEq
def ltoken (k : Nat) (p : List UInt8) : Tok × Nat :=
  if k = 0 then (⟨0, [], 0⟩, 0)
  else if k = 1 then (if 40 < p.length then (⟨0, [], 0⟩, 3) else (⟨1, p, 0⟩, 0))
  else if k = 2 then (if (lnum p).2 = 0 then (⟨2, p, (lnum p).1⟩, 0) else (⟨0, [], 0⟩, (lnum p).2))
  else if k = 3 then (if (92 : UInt8) ∈ (p.drop 1).take (p.length - 2) ∨ (10 : UInt8) ∈ (p.drop 1).take (p.length - 2) then (⟨0, [], 0⟩, 9) else (⟨3, (p.drop 1).take (p.length - 2), 0⟩, 0))
  else (⟨k, p, 0⟩, 0)
def lfirst (l : List UInt8) : Tok × Nat × Nat :=
  if (lcut l).2.2 ≠ 0 then (⟨0, [], 0⟩, 0, (lcut l).2.2)
  else if (ltoken (lcut l).1 (l.take (lcut l).2.1)).2 ≠ 0 then (⟨0, [], 0⟩, 0, (ltoken (lcut l).1 (l.take (lcut l).2.1)).2)
  else ((ltoken (lcut l).1 (l.take (lcut l).2.1)).1, (lcut l).2.1, 0)
theorem lclosed_size {k : Nat} {e l : List UInt8} (hk : k ≤ l.length) (h : (lclosed k e l).2 = 0) : k + e.length ≤ (lclosed k e l).1 ∧ (lclosed k e l).1 ≤ l.length := by
  unfold lclosed at h ⊢
  split
  · rename_i h0; rw [if_pos h0] at h; cases h
  · rename_i h0
    have := index_room (l.drop k) e (by omega)
    rw [List.length_drop] at this
    simp only
    omega
theorem lspan_first {p : UInt8 → Bool} {l : List UInt8} (h0 : 0 < l.length) (h : p (l.headD 0) = true) : 0 < lspan p l := by
  cases l with
  | nil => simp at h0
  | cons b l => rw [lspan_pos (by simpa using h)]; omega
theorem lcut_size {l : List UInt8} (h0 : 0 < l.length) (h : (lcut l).2.2 = 0) : 0 < (lcut l).2.1 ∧ (lcut l).2.1 ≤ l.length := by
  unfold lcut at h ⊢
  split
  · rename_i h1
    exact ⟨lspan_first h0 h1, lspan_le _ _⟩
  rename_i h1
  rw [if_neg h1] at h
  split
  · rename_i h2
    refine ⟨?_, lspan_le _ _⟩
    refine lspan_first h0 ?_
    match l, h2 with
    | b :: c :: l, h2 => simp at h2; simp [h2.1, noLF]
    | [b], h2 => simp at h2
  rename_i h2
  rw [if_neg h2] at h
  split
  · rename_i h3
    rw [if_pos h3] at h
    have hk : 2 ≤ l.length := by
      have := congrArg List.length h3
      rw [List.length_take] at this
      simp at this
      omega
    have := lclosed_size (k := 2) hk h
    simp only at this ⊢
    omega
  rename_i h3
  rw [if_neg h3] at h
  split
  · rename_i h4
    exact ⟨lspan_first h0 (by simp only [lxIn, h4, Bool.true_or]), lspan_le _ _⟩
  rename_i h4
  rw [if_neg h4] at h
  split
  · rename_i h5
    exact ⟨lspan_first h0 (by simp only [lxIn, h5, Bool.or_true]), lspan_le _ _⟩
  rename_i h5
  rw [if_neg h5] at h
  split
  · rename_i h6
    rw [if_pos h6] at h
    have := lclosed_size (k := 1) (by omega) h
    simp only at this ⊢
    omega
  rename_i h6
  rw [if_neg h6] at h
  split
  · exact ⟨by simp, h0⟩
  · rename_i h7
    rw [if_neg h7] at h
    simp at h
theorem lfirst_size {l : List UInt8} (h0 : 0 < l.length) (h : (lfirst l).2.2 = 0) : 0 < (lfirst l).2.1 ∧ (lfirst l).2.1 ≤ l.length ∧ (lcut l).2.2 = 0 ∧ (lfirst l).2.1 = (lcut l).2.1 ∧ (ltoken (lcut l).1 (l.take (lcut l).2.1)).2 = 0 ∧ (lfirst l).1 = (ltoken (lcut l).1 (l.take (lcut l).2.1)).1 := by
  unfold lfirst at h ⊢
  split
  · rename_i h1; rw [if_pos h1] at h; exact absurd h h1
  rename_i h1
  rw [if_neg h1] at h
  split
  · rename_i h2; rw [if_pos h2] at h; exact absurd h h2
  rename_i h2
  have := lcut_size h0 (by simpa using h1)
  exact ⟨this.1, this.2, by simpa using h1, rfl, by simpa using h2, rfl⟩
def lplace (p : Nat × Nat) (l : List UInt8) : Nat × Nat := l.foldl (fun p b => if b = 10 then (p.1 + 1, 1) else (p.1, p.2 + 1)) p
theorem lplace_append (p : Nat × Nat) (l m : List UInt8) : lplace p (l ++ m) = lplace (lplace p l) m := by simp [lplace]
theorem lplace_snoc (p : Nat × Nat) (l : List UInt8) (b : UInt8) : lplace p (l ++ [b]) = if b = 10 then ((lplace p l).1 + 1, 1) else ((lplace p l).1, (lplace p l).2 + 1) := by
  rw [lplace_append]; simp [lplace]
theorem lplace_le : ∀ (l : List UInt8) (p : Nat × Nat), (lplace p l).1 ≤ p.1 + l.length ∧ (lplace p l).2 ≤ p.2 + 1 + l.length
  | [], p => by simp only [lplace, List.foldl_nil, List.length_nil]; omega
  | b :: l, p => by
    have e : lplace p (b :: l) = lplace (if b = 10 then (p.1 + 1, 1) else (p.1, p.2 + 1)) l := rfl
    rw [e]
    split
    · have := lplace_le l (p.1 + 1, 1)
      simp only [List.length_cons] at this ⊢
      omega
    · have := lplace_le l (p.1, p.2 + 1)
      simp only [List.length_cons] at this ⊢
      omega
def placeAt (l : List UInt8) (at' : Nat) : Nat × Nat := lplace (1, 1) (l.take at')
theorem placeAt_more (l : List UInt8) (i n : Nat) : placeAt l (i + n) = lplace (placeAt l i) ((l.drop i).take n) := by
  unfold placeAt
  rw [← lplace_append, List.take_add]
theorem placeAt_le (l : List UInt8) (i : Nat) : (placeAt l i).1 ≤ 1 + l.length ∧ (placeAt l i).2 ≤ 2 + l.length := by
  have := lplace_le (l.take i) (1, 1)
  have h : (l.take i).length ≤ l.length := by rw [List.length_take]; omega
  unfold placeAt
  simp only at this ⊢
  omega
inductive Lex (l : List UInt8) : Nat → List (Tok × Nat) → Nat → Nat → Prop
  | done {i : Nat} : i = l.length → Lex l i [] 0 0
  | bad {i : Nat} : i < l.length → (lfirst (l.drop i)).2.2 ≠ 0 → Lex l i [] (lfirst (l.drop i)).2.2 i
  | gap {i : Nat} {ts e ea} : i < l.length → (lfirst (l.drop i)).2.2 = 0 → (lcut (l.drop i)).1 = 0 → Lex l (i + (lfirst (l.drop i)).2.1) ts e ea → Lex l i ts e ea
  | tok {i : Nat} {ts e ea} : i < l.length → (lfirst (l.drop i)).2.2 = 0 → (lcut (l.drop i)).1 ≠ 0 → Lex l (i + (lfirst (l.drop i)).2.1) ts e ea → Lex l i (((lfirst (l.drop i)).1, i) :: ts) e ea
theorem lex_total (l : List UInt8) : ∀ (n i : Nat), i + n = l.length → ∃ ts e ea, Lex l i ts e ea := by
  intro n
  induction n using Nat.strongRecOn with
  | ind n ih =>
    intro i hi
    by_cases h0 : i = l.length
    · exact ⟨_, _, _, .done h0⟩
    have hlt : i < l.length := by omega
    by_cases hb : (lfirst (l.drop i)).2.2 = 0
    · have hs := lfirst_size (l := l.drop i) (by rw [List.length_drop]; omega) hb
      rw [List.length_drop] at hs
      obtain ⟨ts, e, ea, hL⟩ := ih (n - (lfirst (l.drop i)).2.1) (by omega) (i + (lfirst (l.drop i)).2.1) (by omega)
      by_cases hk : (lcut (l.drop i)).1 = 0
      · exact ⟨_, _, _, .gap hlt hb hk hL⟩
      · exact ⟨_, _, _, .tok hlt hb hk hL⟩
    · exact ⟨_, _, _, .bad hlt hb⟩
theorem lnum_err (l : List UInt8) : (lnum l).2 ≤ 9 := by
  have h : ∀ b m, (lnb b m).2 ≤ 9 := fun b m => by
    unfold lnb
    split
    · simp
    · split <;> simp
  unfold lnum
  split
  · exact h _ _
  · split <;> exact h _ _
theorem lclosed_err (k : Nat) (e l : List UInt8) : (lclosed k e l).2 ≤ 9 := by unfold lclosed; split <;> simp
theorem lcut_err (l : List UInt8) : (lcut l).2.2 ≤ 9 := by
  unfold lcut
  split
  · simp
  split
  · simp
  split
  · exact lclosed_err _ _ _
  split
  · simp
  split
  · simp
  split
  · exact lclosed_err _ _ _
  split <;> simp
theorem ltoken_err (k : Nat) (p : List UInt8) : (ltoken k p).2 ≤ 9 := by
  have := lnum_err p
  unfold ltoken
  split
  · simp
  split
  · split <;> simp
  split
  · split
    · simp
    · simpa using this
  split
  · split <;> simp
  · simp
theorem lfirst_err (l : List UInt8) : (lfirst l).2.2 ≤ 9 := by
  have h1 := lcut_err l
  have h2 := ltoken_err (lcut l).1 (l.take (lcut l).2.1)
  unfold lfirst
  split
  · exact h1
  split
  · exact h2
  · simp
theorem Lex.err {l : List UInt8} {i : Nat} {ts e ea} (h : Lex l i ts e ea) : e ≤ 9 ∧ ts.length + i ≤ l.length ∧ (e ≠ 0 → ea < l.length) := by
  induction h with
  | done h => exact ⟨by omega, by simp; omega, fun h => absurd rfl h⟩
  | bad h1 h2 => exact ⟨lfirst_err _, by simp; omega, fun _ => h1⟩
  | gap h1 h2 h3 _ ih =>
    have := lfirst_size (by rw [List.length_drop]; omega) h2
    exact ⟨ih.1, by omega, ih.2.2⟩
  | tok h1 h2 h3 _ ih =>
    have := lfirst_size (by rw [List.length_drop]; omega) h2
    exact ⟨ih.1, by rw [List.length_cons]; omega, ih.2.2⟩
end Go.Proofs.YtfcjeciepadmeaaGreatDoor
