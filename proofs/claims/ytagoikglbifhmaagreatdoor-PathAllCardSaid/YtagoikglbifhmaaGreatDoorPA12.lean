/- Part 12 of what the last text of this claim is proved by: walks over the program, and the math behind them. Conditions: as each theorem says. -/
import Derived.Test.YtagoikglbifhmaaGreatDoorPA11
import Derived.Lib.AppendStr
import Derived.Lib.Builder
import Derived.Laws.Entries
import Derived.Laws.Small
namespace Go.Proofs.YtagoikglbifhmaaGreatDoor
open Go.RowKit
section
variable {P : Program} {cx : Cx} {T : TL} {B : BL} {R : RL} {o : Oper}
theorem run_append_text (w : World) (t u ty e : TypeId) (ht : P.underlying t = some (.slice e)) (hu : P.underlying u = some .string) (hz : (P.info? e).map (fun i => (i.zero, i.size, i.bytes)) = some (some (.int .u8 0), 1, 1)) (v : Value) (n : Nat) (xs : List Value) (hown : w.ownsRow 0 e 1 v n xs) (s : ByteArray) (hs : n + s.size ≤ 140737488355328) :
    ∃ v' w', (Builtin.append_ #[t, u] ty #[v, .string s]).run P w = .ok v' w' ∧ w'.ownsRow 0 e 1 v' (n + s.size) (xs ++ Lib.strCells s) ∧ w.grownBy w' v.ownBlock ∧ (v'.ownBlock = v.ownBlock ∨ v'.ownBlock = some w.heap.size) := by
  obtain ⟨i, hi, hi2⟩ := Option.map_eq_some_iff.1 hz
  simp only [Prod.mk.injEq] at hi2
  obtain ⟨z1, z2, z3⟩ := hi2
  obtain ⟨v', w', h1, h2, h3, h4⟩ := Lib.run_append_own_string (P := P) w 0 t u ty e i ht hu hi z1 z2 z3 v n xs hown s (by unfold maxLen; omega) hs (Nat.zero_le _)
  refine ⟨v', w', h1, h2, h3, ?_⟩
  have hxl : xs.length = n := by simpa using hown.1
  rcases hown.2 with ⟨rfl, rfl⟩ | ⟨g, cap, cur, rfl, _, hg, hnc, hcm, hcs, htake⟩
  · by_cases hm : s.size = 0
    · rw [h4.2 ⟨rfl, hm⟩]
      exact .inl rfl
    · have hr := run_append_nil_string (P := P) w t u ty e i (.int .u8 0) ht hu hi z1 s (by omega) (by omega) (by rw [z3]; omega)
      rw [h1] at hr
      injection hr with hv _
      rw [hv]
      exact .inr rfl
  · by_cases hroom : n + s.size ≤ cap
    · have hr := Lib.run_append_room_string (P := P) w t u ty e i ht hu hi z2 g n cap cur hg s hroom (by simp at hcs; omega)
      rw [h1] at hr
      injection hr with hv _
      rw [hv]
      exact .inl rfl
    · have holds : ∀ j u, xs[j]? = some u → w.cell? ((⟨g, 0, none⟩ : Addr).add j) = some u := hown.cells (g := g) rfl
      have hr := Lib.run_append_grow_string (P := P) w t u ty e i (.int .u8 0) ht hu hi z1 ⟨g, 0, none⟩ n cap xs (by rw [z2]; simpa using hxl) holds s (by omega) (by omega) (by rw [z3]; exact growslice_fits (by omega) (by omega))
      rw [h1] at hr
      injection hr with hv _
      rw [hv]
      exact .inr rfl
theorem e_append_str {ops : Array Oper} {Q : Exit → Act → World → Prop} {l : List Oper} {d : Nat} {x y : Operand} {t u : TypeId} {r n : Nat} {ty : TypeId} {ds : List Dat} {s : List UInt8} (hg : o.guard = none) (hd : o.dst = some d) (hn : Nat.blt d cx.n = true) (ho : o.op = .call { callee := .builtin .append, args := #[x, y], argTypes := #[t, u] }) (hx : Kn T x (.own r)) (hr : lk r R = some ⟨ty, 1, n, ds, false⟩) (hy : Kn T y (.is (.string (str s))))
    (ht : P.underlying t = some (.slice ty)) (hu : P.underlying u = some .string) (hz : (P.info? ty).map (fun i => (i.zero, i.size, i.bytes)) = some (some (.int .u8 0), 1, 1)) (hb1 : n + s.length ≤ 140737488355328)
    (hE : E cx ((d, .own r) :: killT r T) (killB r B) ((r, ⟨ty, 1, n + s.length, ds ++ s.map fun b => .cell (bv b), false⟩) :: R) (wpList P ops Q l)) (hty : Nat.blt ty 1000000 = true := by rfl) : E cx T B R (wpList P ops Q (o :: l)) := fun M V a w hrel => by
  refine wpList_plain hg fun K hK => ?_
  have hh := hrel.heap
  have hxv : a.eval x = V r := hx w (Dc cx B R M V w) M V a fun t z _ hz => hrel.tmp t z hz
  have hyv : a.eval y = .string (str s) := Lies.cell_eq (hy w (Dc cx B R M V w) M V a fun t z _ hz => hrel.tmp t z hz)
  have hrow := hh.row r _ hr
  obtain ⟨xs, hown, hfx⟩ : Gr w (Dc cx B R M V w) 0 ty 1 (V r) n ds := Gx.row hrow hty
  have hro : ∀ g, obk (V r) = some g → cx.w0.heap.size ≤ g ∨ cx.bor g := fun g hg => hh.ro r _ g hr rfl hg
  have hsz : (str s).size = s.length := strSize s
  have hcells : Lib.strCells (str s) = s.map bv := by
    unfold Lib.strCells str bv
    simp
  obtain ⟨v', w', hrun, hown', hgr, hblk⟩ := run_append_text (P := P) w t u o.type ty ht hu hz (V r) n xs hown (str s) (by omega)
  rw [hsz, hcells] at hown'
  rw [← obk_row hown, ← obk_row hown'] at hblk
  rw [← obk_row hown] at hgr
  have hfe : Fits w (Dc cx B R M V w) (s.map fun b => .cell (bv b)) (s.map bv) := by
    have := fits_cells w (Dc cx B R M V w) (s.map bv)
    rwa [List.map_map] at this
  have hDne : ∀ g, Dc cx B R M V w g → some g ≠ obk (V r) := fun g hg e => by
    rcases hg with hg | ⟨_, _, _, a4⟩
    · have := hh.d0 g hg
      rcases hro g e.symm with h | h
      · omega
      · exact this.2 h
    · exact a4 r _ hr rfl e.symm
  have hkeep : Keeps (Dc cx B R M V w) w w' := .of_grown hgr (fun g hg => hh.dlt hg) hDne
  let V' : Nat → Value := fun q => if q = r then v' else V q
  have hVr : V' r = v' := if_pos rfl
  have hV : ∀ q, q ≠ r → V' q = V q := fun q h => if_neg h
  have hblt : ∀ c x, lk c B = some x → M c < w.heap.size := fun c x hx => by
    obtain ⟨_, cs, h2, _⟩ := hh.box c x hx
    exact h2.lt
  have hlkB : ∀ c x, lk c (killB r B) = some x → ∃ y, lk c B = some y ∧ x = ⟨y.ty, y.cs.map (·.kill r)⟩ := fun c x hx => by
    unfold killB at hx
    rw [lk_map (fun y : Bx => (⟨y.ty, y.cs.map (·.kill r)⟩ : Bx)), Option.map_eq_some_iff] at hx
    obtain ⟨y, h1, h2⟩ := hx
    exact ⟨y, h1, h2.symm⟩
  have hnew : ∀ g, obk v' = some g → obk (V r) = some g ∨ g = w.heap.size := fun g hg => by
    rcases hblk with h | h
    · exact .inl (h ▸ hg)
    · rw [h] at hg
      exact .inr (by simpa using hg.symm)
  have hD : ∀ g, Dc cx B R M V w g → Dc cx (killB r B) ((r, ⟨ty, 1, n + s.length, ds ++ s.map fun b => .cell (bv b), false⟩) :: R) M V' w' g := fun g hg => by
    have hgl := hh.dlt hg
    have hgn := hDne g hg
    rcases hg with hg | ⟨a1, a2, a3, a4⟩
    · exact .inl hg
    · refine .inr ⟨a1, by have := hgr.size; omega, fun c x hx => ?_, fun q x hx hf e => ?_⟩
      · obtain ⟨y, hy, _⟩ := hlkB c x hx
        exact a3 c y hy
      · rcases lk_cons hx with ⟨rfl, rfl⟩ | ⟨hne, hx⟩
        · rw [hVr] at e
          rcases hnew g e with e | e
          · exact hgn e.symm
          · omega
        · rw [hV q (Ne.symm hne)] at e
          exact a4 q x hx hf e
  have hrel' : Rel cx ((d, .own r) :: killT r T) (killB r B) ((r, ⟨ty, 1, n + s.length, ds ++ s.map fun b => .cell (bv b), false⟩) :: R) M V' (a.put (some d) v') w' := by
    refine ⟨by simpa [Act.put] using hrel.size, hrel.defers, ⟨hh.below.turn hgr.os hgr.tape hgr.output hgr.size _ hro (fun k hk hne => hgr.block k hk hne), hh.d0, hh.bl, hh.gl, fun c x hx => ?_, fun q x hx => ?_, fun q x g hx hf hg => ?_, hh.pin, fun c e x y hx hy he => ?_, fun c q x y g hx hy hf hg => ?_, fun q p x y g hx hy hf hf' hg hg' => ?_⟩, fun t x hx => ?_⟩
    · obtain ⟨y, hy, rfl⟩ := hlkB c x hx
      obtain ⟨a1, cs, a2, a3⟩ := hh.box c y hy
      refine ⟨a1, cs, a2.grown hgr fun e => hh.br c r y _ (M c) hy hr rfl e.symm rfl, by simpa using a3.1, fun j z u hz hu => ?_⟩
      simp only [List.getElem?_map, Option.map_eq_some_iff] at hz
      obtain ⟨z0, hz0, rfl⟩ := hz
      have := a3.2 j z0 u hz0 hu
      exact ⟨(this.1.kill.newV hV (IV.nor_kill r z0)).stay hkeep hD, this.2⟩
    · rcases lk_cons hx with ⟨rfl, rfl⟩ | ⟨hne, hx⟩
      · rw [hVr]
        have : Gx w' (Dc cx (killB r B) ((r, ⟨ty, 1, n + s.length, ds ++ s.map fun b => .cell (bv b), false⟩) :: R) M V' w') 0 ty 1 v' (n + s.length) (ds ++ s.map fun b => .cell (bv b)) := ⟨_, .inl ⟨hty, hown'⟩, (hfx.append hfe).stay hkeep hD⟩
        exact this
      · rw [hV q (Ne.symm hne)]
        have h1 := hh.row q x hx
        split
        · rename_i hf
          rw [if_pos hf] at h1
          exact h1.stay hkeep hD
        · rename_i hf
          rw [if_neg hf] at h1
          obtain ⟨ys, a2, a3⟩ := h1
          refine ⟨ys, Ow.stay a2 fun g hg => hgr.block g (a2.lt g hg).2 fun e => ?_, a3.stay hkeep hD⟩
          exact hne (hh.rr r q _ x g hr hx rfl (by simpa using hf) e.symm hg)
    · rcases lk_cons hx with ⟨rfl, rfl⟩ | ⟨hne, hx⟩
      · rw [hVr] at hg
        rcases hnew g hg with e | e
        · exact hro g e
        · rw [e]
          exact .inl hh.below.size
      · rw [hV q (Ne.symm hne)] at hg
        exact hh.ro q x g hx hf hg
    · obtain ⟨x', hx', _⟩ := hlkB c x hx
      obtain ⟨y', hy', _⟩ := hlkB e y hy
      exact hh.bb c e x' y' hx' hy' he
    · obtain ⟨x', hx', _⟩ := hlkB c x hx
      rcases lk_cons hy with ⟨rfl, rfl⟩ | ⟨hne, hy⟩
      · rw [hVr] at hg
        rcases hnew g hg with e | e
        · exact hh.br c r x' _ g hx' hr rfl e
        · have := hblt c x' hx'
          omega
      · rw [hV q (Ne.symm hne)] at hg
        exact hh.br c q x' y g hx' hy hf hg
    · have hold : ∀ q x g, q ≠ r → lk q R = some x → x.fz = false → obk (V q) = some g → obk v' ≠ some g := fun q x g hq hx hf hg e => by
        rcases hnew g e with e | e
        · exact hq (hh.rr q r x _ g hx hr hf rfl hg e)
        · have h1 := hh.row q x hx
          rw [hf] at h1
          obtain ⟨ys, a2, _⟩ := h1
          have := (a2.lt g hg).2
          omega
      rcases lk_cons hx with ⟨rfl, rfl⟩ | ⟨hne, hx⟩
      · rcases lk_cons hy with ⟨rfl, rfl⟩ | ⟨hne', hy⟩
        · rfl
        · rw [hVr] at hg
          rw [hV p (Ne.symm hne')] at hg'
          exact absurd hg (hold p y g (Ne.symm hne') hy hf' hg')
      · rcases lk_cons hy with ⟨rfl, rfl⟩ | ⟨hne', hy⟩
        · rw [hVr] at hg'
          rw [hV q (Ne.symm hne)] at hg
          exact absurd hg' (hold q x g (Ne.symm hne) hx hf hg)
        · rw [hV q (Ne.symm hne)] at hg
          rw [hV p (Ne.symm hne')] at hg'
          exact hh.rr q p x y g hx hy hf hf' hg hg'
    · rw [getD_put a d t _ (by rw [hrel.size]; exact blt_lt hn)]
      rcases lk_cons hx with ⟨rfl, rfl⟩ | ⟨hne, hx⟩
      · rw [if_pos rfl]
        exact hVr.symm
      · rw [if_neg hne]
        unfold killT at hx
        rw [lk_map (fun y : IV => y.kill r), Option.map_eq_some_iff] at hx
        obtain ⟨z0, hz0, rfl⟩ := hx
        exact ((hrel.tmp t z0 hz0).kill.newV hV (IV.nor_kill r z0)).stay hkeep hD
  have := hK _ _ (hE M V' _ _ hrel')
  unfold Oper.wp execOp
  simp only [ho, resolve, invoke, builtin, Sem.run_bind, Sem.run_pure, Result.andThen_ok, List.map_toArray, List.map_cons, List.map_nil, hxv, hyv, hrun]
  simp only [Oper.upon, hd]
  exact this
end
end Go.Proofs.YtagoikglbifhmaaGreatDoor
namespace Go.Proofs.YtagoikglbifhmaaGreatDoor
open Go.RowKit
def off (d : Nat) : TL → TL
  | [] => []
  | (j, x) :: l => bif Nat.beq j d then off d l else (j, x) :: off d l
section
variable {P : Program} {cx : Cx} {T T' T2 : TL} {B : BL} {R : RL}
end
end Go.Proofs.YtagoikglbifhmaaGreatDoor
namespace Go.Proofs.YtagoikglbifhmaaGreatDoor
open Go.RowKit
section
variable {P : Program} {cx : Cx} {T : TL} {B : BL} {R : RL}
theorem wp_then {o : Oper} {a : Act} {w : World} {K : Act → World → Prop} {Q : Exit → Act → World → Prop} (h : o.wp P a w K (Exit.then K Q)) : o.wp P a w K Q := by
  unfold Oper.wp at *
  generalize (execOp a.eval o).run P w = r at *
  cases r with
  | ok n w' =>
    cases n <;> simp only [Oper.upon] at h ⊢ <;> first | exact h | exact Calls.mono h (fun e w'' he => by cases e <;> exact he) | exact Rows.mono h (fun _ _ he => he)
  | halt x w' => cases x <;> simp only [Oper.upon] at h ⊢ <;> exact h
theorem op_of_list {ops : Array Oper} {Q : Exit → Act → World → Prop} {K : Act → World → Prop} {o : Oper} {i : Nat} {a : Act} {w : World} (hi : ops[i]? = some o) (hl : LetsOut (Exit.then K Q) → LetsOut Q) (h : wpList P ops (Exit.then K Q) [o] a w) : wpOp P ops Q i K a w := by
  unfold wpOp
  simp only [hi]
  simp only [wpList] at h
  split
  · rename_i hw
    rw [if_pos hw] at h
    exact h.imp (fun h => wp_then h) (fun h => ⟨h.1, hl h.2⟩)
  · rename_i hw
    rw [if_neg hw] at h
    exact h
end
end Go.Proofs.YtagoikglbifhmaaGreatDoor
namespace Go.Proofs.YtagoikglbifhmaaGreatDoor
open Go.RowKit
section
variable {P : Program} {cx : Cx} {T : TL} {B : BL} {R : RL}
def LentBr (ρ σ : Nat → Nat) (B : BL) : BL → Prop
  | [] => True
  | (b, x) :: l => lk (ρ b) B = some ⟨x.ty, x.cs.map (·.ren ρ σ)⟩ ∧ LentBr ρ σ B l
def LentRr (σ : Nat → Nat) (R : RL) : RL → Prop
  | [] => True
  | (r, x) :: l => lk (σ r) R = some x ∧ LentRr σ R l
theorem LentBr.get {ρ σ : Nat → Nat} : ∀ {B0 : BL} (_ : LentBr ρ σ B B0) {b : Nat} {x : Bx}, lk b B0 = some x → lk (ρ b) B = some ⟨x.ty, x.cs.map (·.ren ρ σ)⟩
  | (c, y) :: l, h, b, x, hx => by
    rcases lk_cons hx with ⟨rfl, rfl⟩ | ⟨_, hx⟩
    · exact h.1
    · exact LentBr.get h.2 hx
  | [], _, _, _, hx => by cases hx
theorem LentRr.get {σ : Nat → Nat} : ∀ {R0 : RL} (_ : LentRr σ R R0) {b : Nat} {x : Rw}, lk b R0 = some x → lk (σ b) R = some x
  | (c, y) :: l, h, b, x, hx => by
    rcases lk_cons hx with ⟨rfl, rfl⟩ | ⟨_, hx⟩
    · exact h.1
    · exact LentRr.get h.2 hx
  | [], _, _, _, hx => by cases hx
end
end Go.Proofs.YtagoikglbifhmaaGreatDoor
namespace Go.Proofs.YtagoikglbifhmaaGreatDoor
open Go.RowKit
section
variable {P : Program} {cx : Cx} {T : TL} {B : BL} {R : RL} {M : Nat → Nat} {V : Nat → Value} {o : Oper}
theorem EFx.more {gls gls' : List (Nat × List Value)} {f : FuncId} {ps : List Part} {Y : IV → Prop} (h : EFx P gls f ps Y) (hs : ∀ x, x ∈ gls → x ∈ gls') : EFx P gls' f ps Y := fun w D vs hD hG hp => h w D vs hD (fun g cs hg => hG g cs (hs _ hg)) hp
def EFw (P : Program) (cx : Cx) (f : FuncId) (ps : List Part) (y : IV) : Prop := ∀ w, Bex cx.bor cx.w0 w → ∀ (D : Nat → Prop) (vs : List Value), (∀ g, D g → g < w.heap.size) → GlOK cx.gl w → PsFit w D ps vs → Calls P f vs.toArray w (Gives w D (· = y))
theorem s_callw {f : FuncId} {xs : List Operand} {ts : Array TypeId} {ps : List Part} {y : IV} (ho : o.op = .call { callee := .value (.func f), args := xs.toArray, argTypes := ts }) (hc : callable P f = true) (hf : EFw P cx f ps y) (hx : KnA T xs ps) : LStep P cx B R o T y := fun M V w a hh ht => by
  have hrun : (execOp a.eval o).run P w = .ok (.enter f (xs.map a.eval).toArray) w := by
    have he : a.eval (.func f) = .func (.func f) #[] #[] := rfl
    simp [execOp, ho, resolve, he, Deferred.ofValue, invoke, run_callable hc]
  have hk : ∀ x z, x ∈ xs → Kn T x z → VR w (Dc cx B R M V w) M V z (a.eval x) := fun x z hm hkx => hkx w _ M V a fun t z' e hz => ht t z' (by
    subst e
    rw [ho]
    simp [Op.operands, Call.operands]
    exact hm) hz
  rw [hrun]
  refine ⟨rfl, (hf w hh.below (Dc cx B R M V w) _ (fun _ hg => hh.dlt hg) hh.glok (hx.fit hk)).mono fun _ _ ⟨v, y', h1, h2, h3, h4⟩ => ⟨v, h1, h3, ?_⟩⟩
  subst h2
  exact (h4 M V).stay (Keeps.refl _ _) fun _ hg => hh.new hg h3.size
end
end Go.Proofs.YtagoikglbifhmaaGreatDoor
namespace Go.Proofs.YtagoikglbifhmaaGreatDoor
open Go.RowKit
section
variable {P : Program} {cx : Cx} {T : TL} {B : BL} {R : RL} {o : Oper}
theorem s_callf {f : FuncId} {x : Operand} {xs : List Operand} {ts : Array TypeId} {ps : List Part} {y : IV} (ho : o.op = .call { callee := .value x, args := xs.toArray, argTypes := ts }) (hc : callable P f = true) (hxf : Kn T x (.is (.func (.func f) #[] #[]))) (hf : EF P cx.gl f ps y) (hx : KnA T xs ps) : LStep P cx B R o T y := fun M V w a hh ht => by
  have hkk : ∀ y z, y ∈ x :: xs → Kn T y z → VR w (Dc cx B R M V w) M V z (a.eval y) := fun y z hm hkx => hkx w _ M V a fun t z' e hz => ht t z' (by
    subst e
    rw [ho]
    simpa [Op.operands, Call.operands] using hm) hz
  have he : a.eval x = .func (.func f) #[] #[] := (hkk x _ (by simp) hxf).is_eq
  have hrun : (execOp a.eval o).run P w = .ok (.enter f (xs.map a.eval).toArray) w := by
    simp [execOp, ho, resolve, he, Deferred.ofValue, invoke, run_callable hc]
  rw [hrun]
  refine ⟨rfl, (calls_at hh (fun x z hm hkx => hkk x z (by simp [hm]) hkx) hx hf).mono fun _ _ ⟨v, y', h1, h2, h3, h4⟩ => ⟨v, h1, h3, h2 ▸ h4⟩⟩
end
end Go.Proofs.YtagoikglbifhmaaGreatDoor
namespace Go.Proofs.YtagoikglbifhmaaGreatDoor
open Go.RowKit
section
variable {P : Program} {cx : Cx} {T : TL} {B : BL} {R : RL} {M : Nat → Nat} {V : Nat → Value}
theorem Rel.own_new {a : Act} {w w' : World} (hrel : Rel cx T B R M V a w) (hb : Below w.heap.size w w') {ty k n : Nat} {v : Value} {cs : List Value} (hown : w'.ownsRow w.heap.size ty k v n cs) (r : Nat) (hT : norT r T = true) (hB : norB r B = true) (hty : Nat.blt ty 1000000 = true) : ∃ V', V' r = v ∧ Rel cx T B ((r, ⟨ty, k, n, cs.map .cell, false⟩) :: R) M V' a w' := by
  have hh := hrel.heap
  have hsz := hh.below.size
  let V' : Nat → Value := fun q => if q = r then v else V q
  have hVr : V' r = v := if_pos rfl
  have hV : ∀ q, q ≠ r → V' q = V q := fun q h => if_neg h
  have hlt : ∀ g, obk v = some g → w.heap.size ≤ g ∧ g < w'.heap.size := fun g hg => hown.lt g ((obk_row hown).symm.trans hg)
  have hown0 : w'.ownsRow 0 ty k v n cs := by
    refine ⟨hown.1, ?_⟩
    rcases hown.2 with h | ⟨g, cap, cur, h1, _, h3⟩
    · exact .inl h
    · exact .inr ⟨g, cap, cur, h1, Nat.zero_le _, h3⟩
  have hold : ∀ q x g, lk q R = some x → x.fz = false → obk (V q) = some g → g < w.heap.size := fun q x g hx hf hg => by
    have h1 := hh.row q x hx
    rw [hf] at h1
    obtain ⟨ys, a2, _⟩ := h1
    exact (a2.lt g hg).2
  have hoB : ∀ b x, lk b B = some x → M b < w.heap.size := fun b x hx => by
    obtain ⟨_, cs, h2, _⟩ := hh.box b x hx
    exact h2.lt
  have hk := hh.keeps hb
  have hD : ∀ g, Dc cx B R M V w g → Dc cx B ((r, ⟨ty, k, n, cs.map .cell, false⟩) :: R) M V' w' g := fun g hg => by
    have hgl := hh.dlt hg
    rcases hg with hg | ⟨a1, a2, a3, a4⟩
    · exact .inl hg
    · refine .inr ⟨a1, by have := hb.size; omega, a3, fun q x hx hf e => ?_⟩
      rcases lk_cons hx with ⟨rfl, _⟩ | ⟨hne, hx⟩
      · rw [hVr] at e
        have := (hlt g e).1
        omega
      · rw [hV q (Ne.symm hne)] at e
        exact a4 q x hx hf e
  refine ⟨V', hVr, hrel.size, hrel.defers, ⟨hh.below.step hb, hh.d0, hh.bl, hh.gl, fun b x hx => ?_, fun q x hx => ?_, fun q x g hx hf hg => ?_, hh.pin, hh.bb, fun b q x y g hx hy hf hg => ?_, fun q p x y g hx hy hf hf' hg hg' => ?_⟩, fun t x hx => ?_⟩
  · obtain ⟨a1, cs, a2, a3⟩ := hh.box b x hx
    have hn := List.all_eq_true.1 hB _ (lk_mem hx)
    have a4 : CFit w (Dc cx B R M V w) M V' x.cs cs := ⟨a3.1, fun j y v h1 h2 => ⟨(a3.2 j y v h1 h2).1.newV hV (List.all_eq_true.1 hn _ (List.mem_of_getElem? h1)), (a3.2 j y v h1 h2).2⟩⟩
    exact ⟨a1, cs, a2.kept hb, a4.stay hk hD⟩
  · rcases lk_cons hx with ⟨rfl, rfl⟩ | ⟨hne, hx⟩
    · rw [hVr]
      exact (⟨cs, .inl ⟨hty, hown0⟩, fits_cells _ _ _⟩ : Gx _ _ _ _ _ _ _ _)
    · rw [hV q (Ne.symm hne)]
      have h1 := hh.row q x hx
      split
      · rename_i hf
        rw [if_pos hf] at h1
        exact h1.stay hk hD
      · rename_i hf
        rw [if_neg hf] at h1
        obtain ⟨xs, a2, a3⟩ := h1
        exact ⟨xs, Ow.stay a2 fun g hg => hb.block g (a2.lt g hg).2, a3.stay hk hD⟩
  · rcases lk_cons hx with ⟨rfl, rfl⟩ | ⟨hne, hx⟩
    · rw [hVr] at hg
      have := (hlt g hg).1
      exact .inl (by omega)
    · rw [hV q (Ne.symm hne)] at hg
      exact hh.ro q x g hx hf hg
  · rcases lk_cons hy with ⟨rfl, rfl⟩ | ⟨hne, hy⟩
    · rw [hVr] at hg
      have := (hlt g hg).1
      have := hoB b x hx
      omega
    · rw [hV q (Ne.symm hne)] at hg
      exact hh.br b q x y g hx hy hf hg
  · rcases lk_cons hx with ⟨rfl, rfl⟩ | ⟨hne, hx⟩
    · rcases lk_cons hy with ⟨rfl, rfl⟩ | ⟨hne', hy⟩
      · rfl
      · rw [hVr] at hg
        rw [hV p (Ne.symm hne')] at hg'
        have := (hlt g hg).1
        have := hold p y g hy hf' hg'
        omega
    · rcases lk_cons hy with ⟨rfl, rfl⟩ | ⟨hne', hy⟩
      · rw [hVr] at hg'
        rw [hV q (Ne.symm hne)] at hg
        have := (hlt g hg').1
        have := hold q x g hx hf hg
        omega
      · rw [hV q (Ne.symm hne)] at hg
        rw [hV p (Ne.symm hne')] at hg'
        exact hh.rr q p x y g hx hy hf hf' hg hg'
  · exact ((hrel.tmp t x hx).newV hV (List.all_eq_true.1 hT _ (lk_mem hx))).stay hk hD
end
end Go.Proofs.YtagoikglbifhmaaGreatDoor
namespace Go.Proofs.YtagoikglbifhmaaGreatDoor
open Go.RowKit
section
variable {P : Program} {cx : Cx} {T : TL} {B : BL} {R : RL} {o : Oper}
theorem v_shr1 {t : TypeId} {n : Int} : BinV P .shr t (.int .u64 n) (.int .u64 1) (.int .u64 (n / 2)) := fun _ _ w => by
  simp only [eqGuard_shr, binOp_shr]
  rw [Sem.run_bind, Sem.run_pure, Result.andThen_ok, shift_shr_u64 .u64 n 1 (by decide) (by decide)]
  simp
theorem s_ext2 {f : FuncId} {x y : Operand} {ts : Array TypeId} {u v r : Value} (ho : o.op = .call { callee := .value (.func f), args := #[x, y], argTypes := ts }) (hf : ∀ w : World, (callFunc f #[u, v]).run P w = .ok (.value r) w) (hx : Kn T x (.is u)) (hy : Kn T y (.is v)) : LStep P cx B R o T (.is r) := LStep.same fun M V w a _ hk => by
  have h1 := (hk x _ (by simp [ho, Op.operands, Call.operands]) hx).is_eq
  have h2 := (hk y _ (by simp [ho, Op.operands, Call.operands]) hy).is_eq
  have he : a.eval (.func f) = .func (.func f) #[] #[] := rfl
  exact ⟨_, by simp [execOp, ho, resolve, he, Deferred.ofValue, invoke, h1, h2, hf], .cell _⟩
variable {M : Nat → Nat} {V : Nat → Value}
end
end Go.Proofs.YtagoikglbifhmaaGreatDoor
