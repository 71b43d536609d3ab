/- Part 10 of what the last text of this claim is proved by: walks over the program, and the math behind them. Conditions: as each theorem says. -/
import Derived.Test.YtekeanikgcpijaaDoorSO09
import Derived.Lib.AppendStr
import Derived.Lib.Builder
namespace Go.Proofs.YtekeanikgcpijaaDoor
open Go.RowKit
section
variable {P : Program} {cx : Cx} {T : TL} {B : BL} {R : RL} {o : Oper}
theorem run_append_text (w : World) (t u ty e : TypeId) (ht : P.underlying t = some (.slice e)) (hu : P.underlying u = some .string) (hz : (P.info? e).map (fun i => (i.zero, i.size, i.bytes)) = some (some (.int .u8 0), 1, 1)) (v : Value) (n : Nat) (xs : List Value) (hown : w.ownsRow 0 e 1 v n xs) (s : ByteArray) (hs : n + s.size ≤ 140737488355328) :
    ∃ v' w', (Builtin.append_ #[t, u] ty #[v, .string s]).run P w = .ok v' w' ∧ w'.ownsRow 0 e 1 v' (n + s.size) (xs ++ Lib.strCells s) ∧ w.grownBy w' v.ownBlock ∧ (v'.ownBlock = v.ownBlock ∨ v'.ownBlock = some w.heap.size) := by
  obtain ⟨i, hi, hi2⟩ := Option.map_eq_some_iff.1 hz
  simp only [Prod.mk.injEq] at hi2
  obtain ⟨z1, z2, z3⟩ := hi2
  obtain ⟨v', w', h1, h2, h3, h4⟩ := Lib.run_append_own_string (P := P) w 0 t u ty e i ht hu hi z1 z2 z3 v n xs hown s (by unfold maxLen; omega) hs (Nat.zero_le _)
  refine ⟨v', w', h1, h2, h3, ?_⟩
  have hxl : xs.length = n := by simpa using hown.1
  rcases hown.2 with ⟨rfl, rfl⟩ | ⟨g, cap, cur, rfl, _, hg, hnc, hcm, hcs, htake⟩
  · by_cases hm : s.size = 0
    · rw [h4.2 ⟨rfl, hm⟩]
      exact .inl rfl
    · have hr := run_append_nil_string (P := P) w t u ty e i (.int .u8 0) ht hu hi z1 s (by omega) (by omega) (by rw [z3]; omega)
      rw [h1] at hr
      injection hr with hv _
      rw [hv]
      exact .inr rfl
  · by_cases hroom : n + s.size ≤ cap
    · have hr := Lib.run_append_room_string (P := P) w t u ty e i ht hu hi z2 g n cap cur hg s hroom (by simp at hcs; omega)
      rw [h1] at hr
      injection hr with hv _
      rw [hv]
      exact .inl rfl
    · have holds : ∀ j u, xs[j]? = some u → w.cell? ((⟨g, 0, none⟩ : Addr).add j) = some u := hown.cells (g := g) rfl
      have hr := Lib.run_append_grow_string (P := P) w t u ty e i (.int .u8 0) ht hu hi z1 ⟨g, 0, none⟩ n cap xs (by rw [z2]; simpa using hxl) holds s (by omega) (by omega) (by rw [z3]; exact growslice_fits (by omega) (by omega))
      rw [h1] at hr
      injection hr with hv _
      rw [hv]
      exact .inr rfl
theorem e_append_str {ops : Array Oper} {Q : Exit → Act → World → Prop} {l : List Oper} {d : Nat} {x y : Operand} {t u : TypeId} {r n : Nat} {ty : TypeId} {ds : List Dat} {s : List UInt8} (hg : o.guard = none) (hd : o.dst = some d) (hn : Nat.blt d cx.n = true) (ho : o.op = .call { callee := .builtin .append, args := #[x, y], argTypes := #[t, u] }) (hx : Kn T x (.own r)) (hr : lk r R = some ⟨ty, 1, n, ds, false⟩) (hy : Kn T y (.is (.string (str s))))
    (ht : P.underlying t = some (.slice ty)) (hu : P.underlying u = some .string) (hz : (P.info? ty).map (fun i => (i.zero, i.size, i.bytes)) = some (some (.int .u8 0), 1, 1)) (hb1 : n + s.length ≤ 140737488355328)
    (hE : E cx ((d, .own r) :: killT r T) (killB r B) ((r, ⟨ty, 1, n + s.length, ds ++ s.map fun b => .cell (bv b), false⟩) :: R) (wpList P ops Q l)) (hty : Nat.blt ty 1000000 = true := by rfl) : E cx T B R (wpList P ops Q (o :: l)) := fun M V a w hrel => by
  refine wpList_plain hg fun K hK => ?_
  have hh := hrel.heap
  have hxv : a.eval x = V r := hx w (Dc cx B R M V w) M V a fun t z _ hz => hrel.tmp t z hz
  have hyv : a.eval y = .string (str s) := Lies.cell_eq (hy w (Dc cx B R M V w) M V a fun t z _ hz => hrel.tmp t z hz)
  have hrow := hh.row r _ hr
  obtain ⟨xs, hown, hfx⟩ : Gr w (Dc cx B R M V w) 0 ty 1 (V r) n ds := Gx.row hrow hty
  have hro : ∀ g, obk (V r) = some g → cx.w0.heap.size ≤ g ∨ cx.bor g := fun g hg => hh.ro r _ g hr rfl hg
  have hsz : (str s).size = s.length := strSize s
  have hcells : Lib.strCells (str s) = s.map bv := by
    unfold Lib.strCells str bv
    simp
  obtain ⟨v', w', hrun, hown', hgr, hblk⟩ := run_append_text (P := P) w t u o.type ty ht hu hz (V r) n xs hown (str s) (by omega)
  rw [hsz, hcells] at hown'
  rw [← obk_row hown, ← obk_row hown'] at hblk
  rw [← obk_row hown] at hgr
  have hfe : Fits w (Dc cx B R M V w) (s.map fun b => .cell (bv b)) (s.map bv) := by
    have := fits_cells w (Dc cx B R M V w) (s.map bv)
    rwa [List.map_map] at this
  have hDne : ∀ g, Dc cx B R M V w g → some g ≠ obk (V r) := fun g hg e => by
    rcases hg with hg | ⟨_, _, _, a4⟩
    · have := hh.d0 g hg
      rcases hro g e.symm with h | h
      · omega
      · exact this.2 h
    · exact a4 r _ hr rfl e.symm
  have hkeep : Keeps (Dc cx B R M V w) w w' := .of_grown hgr (fun g hg => hh.dlt hg) hDne
  let V' : Nat → Value := fun q => if q = r then v' else V q
  have hVr : V' r = v' := if_pos rfl
  have hV : ∀ q, q ≠ r → V' q = V q := fun q h => if_neg h
  have hblt : ∀ c x, lk c B = some x → M c < w.heap.size := fun c x hx => by
    obtain ⟨_, cs, h2, _⟩ := hh.box c x hx
    exact h2.lt
  have hlkB : ∀ c x, lk c (killB r B) = some x → ∃ y, lk c B = some y ∧ x = ⟨y.ty, y.cs.map (·.kill r)⟩ := fun c x hx => by
    unfold killB at hx
    rw [lk_map (fun y : Bx => (⟨y.ty, y.cs.map (·.kill r)⟩ : Bx)), Option.map_eq_some_iff] at hx
    obtain ⟨y, h1, h2⟩ := hx
    exact ⟨y, h1, h2.symm⟩
  have hnew : ∀ g, obk v' = some g → obk (V r) = some g ∨ g = w.heap.size := fun g hg => by
    rcases hblk with h | h
    · exact .inl (h ▸ hg)
    · rw [h] at hg
      exact .inr (by simpa using hg.symm)
  have hD : ∀ g, Dc cx B R M V w g → Dc cx (killB r B) ((r, ⟨ty, 1, n + s.length, ds ++ s.map fun b => .cell (bv b), false⟩) :: R) M V' w' g := fun g hg => by
    have hgl := hh.dlt hg
    have hgn := hDne g hg
    rcases hg with hg | ⟨a1, a2, a3, a4⟩
    · exact .inl hg
    · refine .inr ⟨a1, by have := hgr.size; omega, fun c x hx => ?_, fun q x hx hf e => ?_⟩
      · obtain ⟨y, hy, _⟩ := hlkB c x hx
        exact a3 c y hy
      · rcases lk_cons hx with ⟨rfl, rfl⟩ | ⟨hne, hx⟩
        · rw [hVr] at e
          rcases hnew g e with e | e
          · exact hgn e.symm
          · omega
        · rw [hV q (Ne.symm hne)] at e
          exact a4 q x hx hf e
  have hrel' : Rel cx ((d, .own r) :: killT r T) (killB r B) ((r, ⟨ty, 1, n + s.length, ds ++ s.map fun b => .cell (bv b), false⟩) :: R) M V' (a.put (some d) v') w' := by
    refine ⟨by simpa [Act.put] using hrel.size, hrel.defers, ⟨hh.below.turn hgr.os hgr.tape hgr.output hgr.size _ hro (fun k hk hne => hgr.block k hk hne), hh.d0, hh.bl, hh.gl, fun c x hx => ?_, fun q x hx => ?_, fun q x g hx hf hg => ?_, hh.pin, fun c e x y hx hy he => ?_, fun c q x y g hx hy hf hg => ?_, fun q p x y g hx hy hf hf' hg hg' => ?_⟩, fun t x hx => ?_⟩
    · obtain ⟨y, hy, rfl⟩ := hlkB c x hx
      obtain ⟨a1, cs, a2, a3⟩ := hh.box c y hy
      refine ⟨a1, cs, a2.grown hgr fun e => hh.br c r y _ (M c) hy hr rfl e.symm rfl, by simpa using a3.1, fun j z u hz hu => ?_⟩
      simp only [List.getElem?_map, Option.map_eq_some_iff] at hz
      obtain ⟨z0, hz0, rfl⟩ := hz
      have := a3.2 j z0 u hz0 hu
      exact ⟨(this.1.kill.newV hV (IV.nor_kill r z0)).stay hkeep hD, this.2⟩
    · rcases lk_cons hx with ⟨rfl, rfl⟩ | ⟨hne, hx⟩
      · rw [hVr]
        have : Gx w' (Dc cx (killB r B) ((r, ⟨ty, 1, n + s.length, ds ++ s.map fun b => .cell (bv b), false⟩) :: R) M V' w') 0 ty 1 v' (n + s.length) (ds ++ s.map fun b => .cell (bv b)) := ⟨_, .inl ⟨hty, hown'⟩, (hfx.append hfe).stay hkeep hD⟩
        exact this
      · rw [hV q (Ne.symm hne)]
        have h1 := hh.row q x hx
        split
        · rename_i hf
          rw [if_pos hf] at h1
          exact h1.stay hkeep hD
        · rename_i hf
          rw [if_neg hf] at h1
          obtain ⟨ys, a2, a3⟩ := h1
          refine ⟨ys, Ow.stay a2 fun g hg => hgr.block g (a2.lt g hg).2 fun e => ?_, a3.stay hkeep hD⟩
          exact hne (hh.rr r q _ x g hr hx rfl (by simpa using hf) e.symm hg)
    · rcases lk_cons hx with ⟨rfl, rfl⟩ | ⟨hne, hx⟩
      · rw [hVr] at hg
        rcases hnew g hg with e | e
        · exact hro g e
        · rw [e]
          exact .inl hh.below.size
      · rw [hV q (Ne.symm hne)] at hg
        exact hh.ro q x g hx hf hg
    · obtain ⟨x', hx', _⟩ := hlkB c x hx
      obtain ⟨y', hy', _⟩ := hlkB e y hy
      exact hh.bb c e x' y' hx' hy' he
    · obtain ⟨x', hx', _⟩ := hlkB c x hx
      rcases lk_cons hy with ⟨rfl, rfl⟩ | ⟨hne, hy⟩
      · rw [hVr] at hg
        rcases hnew g hg with e | e
        · exact hh.br c r x' _ g hx' hr rfl e
        · have := hblt c x' hx'
          omega
      · rw [hV q (Ne.symm hne)] at hg
        exact hh.br c q x' y g hx' hy hf hg
    · have hold : ∀ q x g, q ≠ r → lk q R = some x → x.fz = false → obk (V q) = some g → obk v' ≠ some g := fun q x g hq hx hf hg e => by
        rcases hnew g e with e | e
        · exact hq (hh.rr q r x _ g hx hr hf rfl hg e)
        · have h1 := hh.row q x hx
          rw [hf] at h1
          obtain ⟨ys, a2, _⟩ := h1
          have := (a2.lt g hg).2
          omega
      rcases lk_cons hx with ⟨rfl, rfl⟩ | ⟨hne, hx⟩
      · rcases lk_cons hy with ⟨rfl, rfl⟩ | ⟨hne', hy⟩
        · rfl
        · rw [hVr] at hg
          rw [hV p (Ne.symm hne')] at hg'
          exact absurd hg (hold p y g (Ne.symm hne') hy hf' hg')
      · rcases lk_cons hy with ⟨rfl, rfl⟩ | ⟨hne', hy⟩
        · rw [hVr] at hg'
          rw [hV q (Ne.symm hne)] at hg
          exact absurd hg' (hold q x g (Ne.symm hne) hx hf hg)
        · rw [hV q (Ne.symm hne)] at hg
          rw [hV p (Ne.symm hne')] at hg'
          exact hh.rr q p x y g hx hy hf hf' hg hg'
    · rw [getD_put a d t _ (by rw [hrel.size]; exact blt_lt hn)]
      rcases lk_cons hx with ⟨rfl, rfl⟩ | ⟨hne, hx⟩
      · rw [if_pos rfl]
        exact hVr.symm
      · rw [if_neg hne]
        unfold killT at hx
        rw [lk_map (fun y : IV => y.kill r), Option.map_eq_some_iff] at hx
        obtain ⟨z0, hz0, rfl⟩ := hx
        exact ((hrel.tmp t z0 hz0).kill.newV hV (IV.nor_kill r z0)).stay hkeep hD
  have := hK _ _ (hE M V' _ _ hrel')
  unfold Oper.wp execOp
  simp only [ho, resolve, invoke, builtin, Sem.run_bind, Sem.run_pure, Result.andThen_ok, List.map_toArray, List.map_cons, List.map_nil, hxv, hyv, hrun]
  simp only [Oper.upon, hd]
  exact this
theorem blk_shape {w : World} {g : Nat} {t : TypeId} {cs : List Value} (h : Blk w g t cs) : w.shape? g = some (t, cs.length) := by
  unfold Blk at h
  simp [World.shape?, h]
theorem s_toU {x : Operand} {src dst t : TypeId} {b : Nat} {bx : Bx} (ho : o.op = .convert src dst x) (hx : Kn T x (.box b 0)) (hb : lk b B = some bx) (hs : P.underlying src = some (.pointer t)) (hd : P.underlying dst = some .unsafePointer) (hz : (P.info? t).map (fun i => Nat.beq i.size 0) = some false) (hl : Nat.blt 0 bx.cs.length = true) : LStep P cx B R o T (.box b 0) := LStep.same fun M V w a hh hk => by
  have h1 : a.eval x = .pointer (some ⟨M b, 0, none⟩) := hk x _ (by simp [ho, Op.operands]) hx
  obtain ⟨_, cells, hblk, hfit⟩ := hh.box b bx hb
  obtain ⟨j, hj, hj2⟩ := Option.map_eq_some_iff.1 hz
  have hlen : 0 < cells.length := by rw [← hfit.1]; exact blt_lt hl
  have h2 := Lib.run_to_unsafe (P := P) (w := w) ⟨M b, 0, none⟩ hs hd hj (fun e => by rw [e] at hj2; cases hj2) (blk_shape hblk) hlen
  exact ⟨_, by simp [execOp, ho, h1, h2], rfl⟩
theorem s_fromU {x : Operand} {src dst u : TypeId} {b : Nat} {bx : Bx} (ho : o.op = .convert src dst x) (hx : Kn T x (.box b 0)) (hb : lk b B = some bx) (hs : P.underlying src = some .unsafePointer) (hd : P.underlying dst = some (.pointer u)) (hz : (P.info? u).isSome = true) (hl : liesAt P P.depth bx.ty (bx.cs.length / P.cellsOf bx.ty) 0 u 1 = true) : LStep P cx B R o T (.box b 0) := LStep.same fun M V w a hh hk => by
  have h1 : a.eval x = .pointer (some ⟨M b, 0, none⟩) := hk x _ (by simp [ho, Op.operands]) hx
  obtain ⟨_, cells, hblk, hfit⟩ := hh.box b bx hb
  obtain ⟨j, hj⟩ := Option.isSome_iff_exists.1 hz
  have h2 := Lib.run_from_unsafe (P := P) (w := w) ⟨M b, 0, none⟩ hs hd hj (blk_shape hblk) (by rw [← hfit.1]; exact hl)
  exact ⟨_, by simp [execOp, ho, h1, h2], rfl⟩
theorem s_same {f : FuncId} {x : Operand} {ts : Array TypeId} {y : IV} (ho : o.op = .call { callee := .value (.func f), args := #[x], argTypes := ts }) (hf : ∀ (v : Value) (w : World), (callFunc f #[v]).run P w = .ok (.value v) w) (hx : Kn T x y) : LStep P cx B R o T y := LStep.same fun M V w a _ hk => by
  have h1 := hk x _ (by simp [ho, Op.operands, Call.operands]) hx
  have he : a.eval (.func f) = .func (.func f) #[] #[] := rfl
  exact ⟨_, by simp [execOp, ho, resolve, he, Deferred.ofValue, invoke, hf], h1⟩
theorem binv_box {t te : TypeId} (p : Addr) (hp : P.underlying t = some (.pointer te)) (hz : (P.info? te).isSome = true) : BinV P .neq t (.pointer (some p)) (.pointer (some p)) (.bool false) := fun x y w => by
  obtain ⟨j, hj⟩ := Option.isSome_iff_exists.1 hz
  rw [Sem.run_bind, show (eqGuard .neq t x y (.pointer (some p)) (.pointer (some p))).run P w = .ok () w by simp [eqGuard], Result.andThen_ok]
  exact Lib.run_neq_ptr_same (P := P) (w := w) p hp hj
theorem binv_nil {t : TypeId} (p : Option Addr) (h : P.underlying t = some (.pointer (P.pointee t))) : BinV P .eql t (.pointer p) (.pointer none) (.bool p.isNone) := fun x y w => by
  rw [Sem.run_bind, show (eqGuard .eql t x y (.pointer p) (.pointer none)).run P w = .ok () w by simp [eqGuard], Result.andThen_ok]
  exact run_eql_pointer_nil (P := P) w t p h
theorem s_binw {x y : Operand} {op : BinOp} {t t' : TypeId} {r : Value} (ho : o.op = .binOp op t x y t') (h : ∀ (M : Nat → Nat) (V : Nat → Value) (w : World) (a : Act), (∀ z u, z ∈ o.op.operands → Kn T z u → VR w (Dc cx B R M V w) M V u (a.eval z)) → BinV P op t (a.eval x) (a.eval y) r) : LStep P cx B R o T (.is r) := LStep.same fun M V w a _ hk => by
  refine ⟨r, ?_, .cell r⟩
  have := h M V w a hk x y w
  unfold execOp
  simp only [ho]
  rw [Sem.run_bind, this]
  rfl
theorem s_box_neq {x y : Operand} {t t' te : TypeId} {b : Nat} (ho : o.op = .binOp .neq t x y t') (hx : Kn T x (.box b 0)) (hy : Kn T y (.box b 0)) (hp : P.underlying t = some (.pointer te)) (hz : (P.info? te).isSome = true) : LStep P cx B R o T (.is (.bool false)) := s_binw ho fun M V w a hk => by
  have h1 : a.eval x = .pointer (some ⟨M b, 0, none⟩) := hk x _ (by simp [ho, Op.operands]) hx
  have h2 : a.eval y = .pointer (some ⟨M b, 0, none⟩) := hk y _ (by simp [ho, Op.operands]) hy
  rw [h1, h2]
  exact binv_box _ hp hz
theorem s_ptr_nil {x : Operand} {t t' : TypeId} (ho : o.op = .binOp .eql t x (.const (.pointer none)) t') (hx : Kn T x (.is (.pointer none))) (hp : P.underlying t = some (.pointer (P.pointee t))) : LStep P cx B R o T (.is (.bool true)) := s_binw ho fun M V w a hk => by
  have h1 := (hk x _ (by simp [ho, Op.operands]) hx).is_eq
  rw [h1]
  exact binv_nil none hp
theorem s_ptr_box {x : Operand} {t t' : TypeId} {b j : Nat} (ho : o.op = .binOp .eql t x (.const (.pointer none)) t') (hx : Kn T x (.box b j)) (hp : P.underlying t = some (.pointer (P.pointee t))) : LStep P cx B R o T (.is (.bool false)) := s_binw ho fun M V w a hk => by
  have h1 : a.eval x = .pointer (some ⟨M b, j, none⟩) := hk x _ (by simp [ho, Op.operands]) hx
  rw [h1]
  exact binv_nil (some _) hp
end
end Go.Proofs.YtekeanikgcpijaaDoor
namespace Go.Proofs.YtekeanikgcpijaaDoor
section
variable {P : Program} {ops : Array Oper} {md : Region.Mode} {C : World → Prop} {R : World → World → Prop}
theorem wpAnyTL_firstW {ks : Nat → Kind} {n i : Nat} {oi : Oper} {L : Array Bool → List Fact → Act → Prop} (hLm : ∀ listed G G' a, (∀ f ∈ G, f ∈ G') → L listed G a → L listed G' a) (hi : ops[i]? = some oi)
    (hsel : ∀ (j : Nat) (o : Oper) cs b, ops[j]? = some o → o.op ≠ .select cs b)
    {Inv : Array Bool → Prop} (hset : ∀ listed i, Inv listed → i ∈ Region.ready md ops listed → i < n → Inv (listed.setIfInBounds i true)) (hwait : ∀ listed, Inv listed → ∀ i, i < n → listed.getD i true = false → ∀ t, n ≤ t → t ∉ Region.ready md ops listed) (hin : i < n)
    (hdone : ∀ listed G a, L listed G a → ∀ j ∈ Region.ready md ops listed, n ≤ j) :
    ∀ (fuel : Nat) (listed : Array Bool) (G : List Fact) (a : Act), Inv listed →
      (∀ j oj, ops[j]? = some oj → j ≠ i → listed.getD j true = false → (∀ e ∈ oj.after, Region.binds md e = true → e.on ≠ i) → oi.apart ops oj = true) →
      i ∈ Region.ready md ops listed → AskT P ops R C oi (ks i) G a →
      (∀ v, (ks i).ok v → wpAnyTL P md ops R C ks n L fuel (listed.setIfInBounds i true) ((oi.dst, (ks i).pred v) :: G) (a.put oi.dst v)) → wpAnyTL P md ops R C ks n L (fuel + 1) listed G a := by
  intro fuel
  induction fuel with
  | zero =>
    intro listed G a inv _ hr hy H
    have hun := (mem_ready.1 hr).1
    refine ⟨fun h => (by rw [h] at hr; cases hr), fun j hj => ?_⟩
    have hjn : j < n := by
      rcases Nat.lt_or_ge j n with h | h
      · exact h
      · exact absurd hj (hwait _ inv i hin hun j h)
    refine ⟨hjn, fun o ho => ?_⟩
    by_cases hji : j = i
    · subst hji
      rw [hi] at ho; cases ho
      exact ⟨hy, H⟩
    · have := hdone _ _ _ (H _ (ks i).ok_pick) j (ready_mono hj hji)
      omega
  | succ fuel ih =>
    intro listed G a inv hfree hr hy H
    have hun := (mem_ready.1 hr).1
    refine ⟨fun h => (by rw [h] at hr; cases hr), fun j hj => ?_⟩
    have hjn : j < n := by
      rcases Nat.lt_or_ge j n with h | h
      · exact h
      · exact absurd hj (hwait _ inv i hin hun j h)
    refine ⟨hjn, fun o ho => ?_⟩
    by_cases hji : j = i
    · subst hji
      rw [hi] at ho; cases ho
      exact ⟨hy, H⟩
    · have hjun := (mem_ready.1 hj).1
      obtain ⟨a1, a2, a3⟩ := Oper.apart_spec (hfree j o ho hji hjun (ready_free hr hj ho))
      have hjr := ready_mono hj hji
      refine ⟨(AskT.put (hsel j o · · ho) a1).1 (((H _ (ks i).ok_pick).2 j hjr).2 o ho).1, fun u hu => ?_⟩
      refine ih (listed.setIfInBounds j true) _ _ (hset _ _ inv hj hjn) (fun k ok hk hki hun hno => hfree k ok hk hki (Decidable.byCases (fun h : j = k => by rw [← h]; exact hjun) fun h => by rwa [getD_set_ne true h] at hun) hno) (ready_mono hr (Ne.symm hji)) ((AskT.put (hsel i oi · · hi) a3).2 hy) fun v hv => ?_
      have h2 := (((H v hv).2 j hjr).2 o ho).2 u hu
      rw [Array.setIfInBounds_comm _ _ hji, ← Act.put_comm a v u a2]
      refine wpAnyTL_more hLm fuel _ _ _ _ (fun f hf => ?_) h2
      simp only [List.mem_cons] at hf ⊢
      rcases hf with h | h | h
      · exact .inr (.inl h)
      · exact .inl h
      · exact .inr (.inr h)
theorem wpAnyTL_lexW {ks : Nat → Kind} {n g : Nat} {Q : List Fact → Act → Prop} (hQ : ∀ G G' a, (∀ f ∈ G, f ∈ G') → Q G a → Q G' a) (hsel : Region.noSelect ops = true) {Inv : Array Bool → Prop} (hset : ∀ listed i, Inv listed → i ∈ Region.ready md ops listed → i < n → Inv (listed.setIfInBounds i true)) (hwait : ∀ listed, Inv listed → ∀ i, i < n → listed.getD i true = false → ∀ t, n ≤ t → t ∉ Region.ready md ops listed) :
    ∀ (l : List Oper) (kl : List Kind) (k : Nat) (listed : Array Bool) (G : List Fact) (a : Act), (∀ j, j < l.length → l[j]? = ops[k + j]?) → (∀ (j : Nat) x, kl[j]? = some x → ks (k + j) = x) → k + l.length = n → Inv listed →
    Region.lexHead md ops g l.length k listed = true → wpT P ops R C Q l kl G a →
    wpAnyTL P md ops R C ks n (fun listed' G' a' => Region.seqB md ops g n listed' = true ∧ Q G' a') l.length listed G a
  | [], _, k, listed, G, a, _, _, hk, _, hB, h => by
    have : k = n := by simpa using hk
    subst this
    exact ⟨by simpa [Region.lexHead] using hB, h⟩
  | _ :: _, [], _, _, _, _, _, _, _, _, _, h => h.elim
  | o :: l, x :: kl, k, listed, G, a, hl, hx, hk, inv, hB, h => by
    have h0 : ops[k]? = some o := by simpa using (hl 0 (by simp)).symm
    have hx0 : ks k = x := by simpa using hx 0 x (by simp)
    simp only [List.length_cons, Region.lexHead, Bool.and_eq_true] at hB
    obtain ⟨⟨hr, hf⟩, hB'⟩ := hB
    have hkn : k < n := by simp only [List.length_cons] at hk; omega
    have hr' : k ∈ Region.ready md ops listed := by simpa using hr
    obtain ⟨h1, h2⟩ := h
    refine wpAnyTL_firstW (fun listed G G' a hG h => ⟨h.1, hQ _ _ _ hG h.2⟩) h0 (Region.noSelect_spec hsel) hset hwait hkn (fun listed' G' a' hL => seqB_ready hL.1) l.length listed G a inv (Region.free_spec h0 hf) hr' (by rw [hx0]; exact h1) fun v hv => ?_
    rw [hx0] at hv ⊢
    exact wpAnyTL_lexW hQ hsel hset hwait l kl (k + 1) _ _ _ (fun j hj => by have := hl (j + 1) (by simp; omega); simpa [Nat.add_assoc, Nat.add_comm 1 j] using this)
      (fun j x' hj => by have := hx (j + 1) x' (by simpa using hj); simpa [Nat.add_assoc, Nat.add_comm 1 j] using this) (by simp only [List.length_cons] at hk; omega) (hset _ _ inv hr' hkn) hB' (h2 v hv)
def patched (ops : Array Oper) (n : Nat) : Array Oper := ops.modify n fun o => { o with after := o.after.push { on := 0, ground := .phase } }
def floatB (ops : Array Oper) (n : Nat) : Bool :=
  Region.noSelect ops && decide (1 < n) && decide (n < ops.size) && Region.sinkB .any (patched ops n) n && Region.chainB .any (patched ops n) n && Region.lexHead .any ops (ops.size - n) (n - 1) 1 ((Array.replicate ops.size false).setIfInBounds 0 true) &&
  (match ops[0]? with
   | some o0 => o0.after.all (fun e => !Region.binds .any e) && (List.range ops.size).all fun j => j == 0 || Region.waitsFor .any ops j 0 || (match ops[j]? with | some oj => o0.apart ops oj | none => true)
   | none => false)
theorem patched_size (ops : Array Oper) (n : Nat) : (patched ops n).size = ops.size := by simp [patched]
theorem patched_ne {n j : Nat} (h : j ≠ n) : (patched ops n)[j]? = ops[j]? := by
  unfold patched
  rw [Array.getElem?_modify, if_neg (Ne.symm h)]
theorem patched_eq {n : Nat} {o : Oper} (h : ops[n]? = some o) : (patched ops n)[n]? = some { o with after := o.after.push { on := 0, ground := .phase } } := by
  unfold patched
  rw [Array.getElem?_modify, if_pos rfl, h]
  rfl
structure FloatInv (md : Region.Mode) (ops : Array Oper) (n : Nat) (listed : Array Bool) : Prop where
  head : HeadInv md ops n listed
  zero : listed.getD 0 false = true
theorem FloatInv.wait {n : Nat} {listed : Array Bool} (hs : Region.sinkB md (patched ops n) n = true) (hc : Region.chainB md (patched ops n) n = true) (hn : n < ops.size) (inv : FloatInv md ops n listed) : ∀ i, i < n → listed.getD i true = false → ∀ t, n ≤ t → t ∉ Region.ready md ops listed := fun i hi hun t ht hr => by
  have hnl : listed.getD n false = false := getD_both (inv.head.tail n (Nat.le_refl _) hn)
  have inv' : HeadInv md (patched ops n) n listed := ⟨by rw [patched_size]; exact inv.head.size, fun j oj hj hl e he hb => by
    have hjn : j ≠ n := fun e => by
      subst e
      rw [hnl] at hl
      cases hl
    rw [patched_ne hjn] at hj
    exact inv.head.closed j oj hj hl e he hb, fun t h1 h2 => inv.head.tail t h1 (by rwa [patched_size] at h2)⟩
  refine tail_waits hs hc (by rwa [patched_size]) inv' _ i rfl hi hun t ht ?_
  obtain ⟨h1, o, ho, hall⟩ := mem_ready.1 hr
  refine mem_ready.2 ⟨h1, ?_⟩
  by_cases htn : t = n
  · subst htn
    refine ⟨_, patched_eq ho, fun e he hb => ?_⟩
    rcases Array.mem_push.1 he with he | rfl
    · exact hall e he hb
    · exact inv.zero
  · exact ⟨o, by rw [patched_ne htn]; exact ho, hall⟩
theorem wp_region_float {id : Nat} {Q : Exit → Act → World → Prop} {a : Act} {w : World} {l : List Oper} (n : Nat) (C : World → Prop) (R : World → World → Prop) (kl : List Kind) {o0 : Oper} {v : Value} (hm : P.follows .mixedOrders = true)
    (hB : floatB l.toArray n = true) (ho : l.toArray[0]? = some o0) (hy : Yields P l.toArray o0 v a) (hQ : ∀ c a w, Q (.panic c) (a.put o0.dst v) w → Q (.panic c) a w) (hC : Stays R C) (hks : AllStay R kl) (h0 : C w.drew)
    (h : wpT P l.toArray R C (fun G a' => ∀ w', C w' → (∀ f ∈ G, f.2 w') → wpList P l.toArray Q (l.drop n) a' w') ((l.take n).drop 1) kl [] (a.put o0.dst v)) : (Code.region id l.toArray true).wp P Q a w := by
  simp only [floatB, Bool.and_eq_true, decide_eq_true_eq, ho] at hB
  obtain ⟨⟨⟨⟨⟨⟨hsel, hn1⟩, hn⟩, hs⟩, hc⟩, hlex⟩, hd0, hap⟩ := hB
  have hn' : n < l.length := by simpa using hn
  have htl : ((l.take n).drop 1).length = n - 1 := by simp; omega
  have hdl : (l.drop n).length = l.toArray.size - n := by simp
  have hl0 : 0 < l.length := by omega
  have hrep : (Array.replicate l.toArray.size false).getD 0 true = false := by
    simp [hl0]
  have hr0 : 0 ∈ Region.ready .any l.toArray (Array.replicate l.toArray.size false) := mem_ready.2 ⟨hrep, o0, ho, fun e he hb => by
    have := Array.all_eq_true_iff_forall_mem.1 hd0 e he
    rw [hb] at this
    cases this⟩
  have inv00 : HeadInv .any l.toArray n (Array.replicate l.toArray.size false) :=
    ⟨by simp, fun j oj _ hl => (by rw [getD_replicate_false] at hl; cases hl), fun t _ ht => getD_in (by simpa using ht) (getD_replicate_false _ _)⟩
  have inv0 : FloatInv .any l.toArray n ((Array.replicate l.toArray.size false).setIfInBounds 0 true) := ⟨inv00.set hr0 (by omega), by simp [hl0]⟩
  have hks' : ∀ i v, Stays R (((fun i => kl.getD (i - 1) (Kind.is undef)) i).pred v) := fun i v => by
    simp only [List.getD]
    cases hk : kl[i - 1]? with
    | none => exact fun _ _ _ _ => trivial
    | some k => exact hks.mem k (List.mem_of_getElem? hk) v
  have H := wpAnyTL_lexW (md := .any) (ks := fun i => kl.getD (i - 1) (Kind.is undef)) (g := l.toArray.size - n) (Inv := FloatInv .any l.toArray n) (fun G G' a' hG h w' hw hF => h w' hw fun f hf => hF f (hG f hf)) hsel
    (fun listed i inv hi hin => ⟨inv.head.set hi hin, getD_set_true inv.zero⟩) (fun listed inv => inv.wait hs hc hn) ((l.take n).drop 1) kl 1 _ [] (a.put o0.dst v) (fun j hj => by
    have hj' : 1 + j < n := by rw [htl] at hj; omega
    rw [List.getElem?_drop, List.getElem?_take, if_pos hj', List.getElem?_toArray]) (fun j k hj => by simp [List.getD, Nat.add_sub_cancel_left, hj]) (by rw [htl]; omega) inv0 (by rw [htl]; exact hlex) h
  refine wp_region_any hm ?_
  have hsz : l.toArray.size = (l.toArray.size - 1) + 1 := by simp; omega
  have K := wpAny_of_TL (Q' := Q) (g := l.toArray.size - n) hC hks' (fun listed G a' w' hw hG hL => by
    have := wpAny_of_seq (md := .any) (Q' := Q) (l.drop n) n listed a' w' (fun j => by simp [List.getElem?_drop]) (by rw [hdl]; exact hL.1) (hL.2 w' hw hG)
    rwa [hdl] at this) _ _ [] _ w.drew h0 (fun f hf => by cases hf) (fun f hf => by cases hf) H
  rw [htl, show n - 1 + (l.toArray.size - n) = l.toArray.size - 1 by omega] at K
  have := wpAny_first (v := v) ho (Region.noSelect_spec hsel) hQ (l.toArray.size - 1) (Array.replicate l.toArray.size false) a w.drew (fun j oj hj hj0 _ hno => by
    have hlt : j < l.toArray.size := (Array.getElem?_eq_some_iff.1 hj).1
    have h1 := List.all_eq_true.1 hap j (List.mem_range.2 hlt)
    simp only [Bool.or_eq_true, beq_iff_eq, hj] at h1
    rcases h1 with (h1 | h1) | h1
    · exact absurd h1 hj0
    · obtain ⟨oj', hj', e, he, hb, hon⟩ := Region.waitsFor_spec h1
      rw [hj] at hj'
      obtain rfl := Option.some.inj hj'
      exact absurd hon (hno e he hb)
    · exact h1) hr0 hy K
  rwa [← hsz] at this
end
end Go.Proofs.YtekeanikgcpijaaDoor
namespace Go.Proofs.YtekeanikgcpijaaDoor
open Go.RowKit
section
variable {P : Program} {cx : Cx} {T T' : TL} {B : BL} {R : RL}
theorem e_draw_float (n : Nat) {id : Nat} {o0 : Oper} {l : List Oper} {x : Operand} {d : Nat} {y : IV} {Q : Exit → Act → World → Prop} {ys : List IV} (hm : P.follows .mixedOrders = true) (hB : floatB (o0 :: l).toArray n = true) (hg : o0.guard = none) (hd : o0.dst = some d) (hn : Nat.blt d cx.n = true) (ho : o0.op = .move x) (hx : Kn T x y)
    (hQ : ∀ c a v w, Q (.panic c) (a.put (some d) v) w → Q (.panic c) a w) (hW : Walk P cx B R (o0 :: l).toArray (((o0 :: l).take n).drop 1) ((d, y) :: T) ys T') (h : E cx T' B R (wpList P (o0 :: l).toArray Q ((o0 :: l).drop n))) :
    E cx T B R ((Code.region id (o0 :: l).toArray true).wp P Q) := fun M V a w hr => by
  have hxv := hx w (Dc cx B R M V w) M V a fun t z _ hz => hr.tmp t z hz
  have hr1 : Rel cx ((d, y) :: T) B R M V (a.put (some d) (a.eval x)) w := hr.put (Below.refl _ _) (blt_lt hn) hxv
  have h0 : Ct cx ((d, y) :: T) B R M V (a.put (some d) (a.eval x)) w.drew := Ct.stay w _ (Below.refl _ _).drew ⟨hr1.heap, hr1.tmp⟩
  refine wp_region_float n (Ct cx ((d, y) :: T) B R M V (a.put (some d) (a.eval x))) Rb (ys.map (kindOf cx B R M V)) (o0 := o0) (v := a.eval x) hm hB rfl (.inl ⟨by simp [Region.wanted, hg], fun u => by simp [execOp, ho]⟩) (fun c a' w' hq => hQ c a' _ w' (by rw [hd] at hq; exact hq)) Ct.stay (kinds_stay ys) h0 ?_
  rw [hd]
  refine hW.wpT (fun w h => h.1) ⟨_, h0⟩ hr1.size hr1.defers (fun t x hx => .inl fun w h => h.2 t x hx) fun G' a' hn hd hG w' hc hF => ?_
  exact h M V a' w' (hG.rel (fun w h => h.1) hn hd hc hF)
end
end Go.Proofs.YtekeanikgcpijaaDoor
namespace Go.Proofs.YtekeanikgcpijaaDoor
section
variable {P : Program} {ops : Array Oper} {md : Region.Mode} {C : World → Prop} {R : World → World → Prop}
theorem yielded_patched (ops : Array Oper) (n : Nat) (tmps : Array Value) : yielded (patched ops n) tmps = yielded ops tmps := by
  funext j
  unfold yielded
  have : ((patched ops n)[j]?).bind (·.dst) = (ops[j]?).bind (·.dst) := by
    by_cases h : j = n
    · subst h
      cases ho : ops[j]? with
      | none =>
        have : (patched ops j)[j]? = none := by
          unfold patched
          rw [Array.getElem?_modify, if_pos rfl, ho]
          rfl
        rw [this]
      | some o => rw [patched_eq ho]; rfl
    · rw [patched_ne h]
  rw [this]
def listedB (ops : Array Oper) (n : Nat) : Array Bool := (List.range ops.size).map (fun i => Nat.blt 0 i && Nat.blt i n) |>.toArray
def seqL (md : Region.Mode) (ops : Array Oper) : List Nat → Array Bool → Bool
  | [], listed => (Region.ready md ops listed).isEmpty
  | k :: ks, listed => decide (Region.ready md ops listed = [k]) && seqL md ops ks (listed.setIfInBounds k true)
def float2B (ops : Array Oper) (n : Nat) : Bool :=
  Region.lexTailB .any (patched ops n) n && decide (0 < n) &&
  (match ops[0]? with | some o0 => o0.after.all (fun e => !Region.binds .any e) | none => false) && seqL .any ops (0 :: List.range' (n + 1) (ops.size - n - 1)) ((listedB ops n).setIfInBounds n true)
theorem wpAny_of_seqL {Q' : Exit → Act → World → Prop} : ∀ (l : List Oper) (ks : List Nat) (listed : Array Bool) (a : Act) (w : World), l.length = ks.length → (∀ (j k : Nat), ks[j]? = some k → l[j]? = ops[k]?) →
    seqL md ops ks listed = true → wpList P ops Q' l a w → wpAny P md ops Q' l.length listed a w
  | [], [], _, _, _, _, _, hB, h => ⟨by simpa [seqL] using hB, h⟩
  | [], _ :: _, _, _, _, hl, _, _, _ => by cases hl
  | _ :: _, [], _, _, _, hl, _, _, _ => by cases hl
  | o :: l, k :: ks, listed, a, w, hlen, hl, hB, h => by
    have h0 : ops[k]? = some o := by simpa using (hl 0 k rfl).symm
    simp only [seqL, Bool.and_eq_true, decide_eq_true_eq] at hB
    refine ⟨fun h1 => (by rw [hB.1] at h1; cases h1), fun i hi => ?_⟩
    rw [hB.1] at hi
    have hik : i = k := by simpa using hi
    subst hik
    have hw : wpOp P ops Q' i (wpList P ops Q' l) a w := by unfold wpOp; simp only [h0]; exact h
    exact wpOp_mono (fun a' w' h' => wpAny_of_seqL l ks _ a' w' (by simpa using hlen) (fun j k hj => by have := hl (j + 1) k (by simpa using hj); simpa using this) hB.2 h') hw
theorem seqB_patched {n : Nat} : ∀ (g k : Nat) (listed : Array Bool), listed.getD 0 false = true → Region.seqB .any (patched ops n) g k listed = Region.seqB .any ops g k listed := by
  have hr : ∀ listed : Array Bool, listed.getD 0 false = true → Region.ready .any (patched ops n) listed = Region.ready .any ops listed := fun listed hz => by
    unfold Region.ready
    rw [patched_size]
    refine List.filter_congr fun i hi => ?_
    by_cases h : i = n
    · subst h
      have hlt : i < ops.size := List.mem_range.1 hi
      rw [patched_eq (Array.getElem?_eq_getElem hlt), Array.getElem?_eq_getElem hlt]
      simp only [Option.map_some, Option.getD_some, Array.all_push, hz, Bool.or_true, Bool.and_true]
    · rw [patched_ne h]
  intro g
  induction g with
  | zero => intro k listed hz; simp only [Region.seqB, hr listed hz]
  | succ g ih => intro k listed hz; simp only [Region.seqB, hr listed hz, ih _ _ (getD_set_true hz)]
theorem wpAny_of_TLf {ks : Nat → Kind} {n g : Nat} {L : Array Bool → List Fact → Act → Prop} {Q' : Exit → Act → World → Prop} (hC : Stays R C) (hks : ∀ i v, Stays R ((ks i).pred v)) (hn0 : 0 < n) (hn : n < ops.size) {o0 : Oper} (ho0 : ops[0]? = some o0) (hd0 : ∀ e ∈ o0.after, Region.binds md e ≠ true)
    (hs : Region.sinkB md (patched ops n) n = true) (hc : Region.chainB md (patched ops n) n = true)
    (hA : ∀ listed G a w, C w → (∀ f ∈ G, f.2 w) → L listed G a → wpAny P md ops Q' g listed a w)
    (hB : ∀ G a w, C w → (∀ f ∈ G, f.2 w) → (∀ v, (ks 0).ok v → L ((listedB ops n).setIfInBounds 0 true) ((o0.dst, (ks 0).pred v) :: G) (a.put o0.dst v)) → wpOp P ops Q' n (wpAny P md ops Q' g ((listedB ops n).setIfInBounds n true)) a w) :
    ∀ (fuel : Nat) (listed : Array Bool) (G : List Fact) (a : Act) (w : World), HeadInv md ops n listed → C w → (∀ f ∈ G, f.2 w) → (∀ f ∈ G, Stays R f.2) →
    wpAnyTL P md (patched ops n) R C ks n L fuel listed G a → wpAny P md ops Q' (fuel + g) listed a w
  | 0, _, _, _, _, _, hw, hG, _, h => by rw [Nat.zero_add]; exact hA _ _ _ _ hw hG h
  | fuel + 1, listed, G, a, w, inv, hw, hG, hst, h => by
    rw [show fuel + 1 + g = (fuel + g) + 1 by omega]
    have hsub : ∀ i, i ≠ n → (i ∈ Region.ready md (patched ops n) listed ↔ i ∈ Region.ready md ops listed) := fun i hi => by
      rw [mem_ready, mem_ready, patched_ne hi]
    refine ⟨fun h0 => ?_, fun i hi => ?_⟩
    · obtain ⟨i, hi⟩ := List.exists_mem_of_ne_nil _ h.1
      have hin := (h.2 i hi).1
      rw [hsub i (by omega), h0] at hi
      cases hi
    · by_cases hin : i = n
      · subst hin
        have h00 : listed.getD 0 true = false := by
          cases e : listed.getD 0 true with
          | false => rfl
          | true =>
            exfalso
            have he : listed.getD 0 false = true := by
              have : 0 < listed.size := by rw [inv.size]; omega
              simp [this] at e ⊢
              exact e
            obtain ⟨h1, o, ho, hall⟩ := mem_ready.1 hi
            have : i ∈ Region.ready md (patched ops i) listed := mem_ready.2 ⟨h1, _, patched_eq ho, fun e' he' hb => by
              rcases Array.mem_push.1 he' with he' | rfl
              · exact hall e' he' hb
              · exact he⟩
            exact absurd (h.2 i this).1 (Nat.lt_irrefl i)
        have hr0 : 0 ∈ Region.ready md ops listed := mem_ready.2 ⟨h00, o0, ho0, fun e he hb => absurd hb (hd0 e he)⟩
        have inv' : FloatInv md ops i (listed.setIfInBounds 0 true) := ⟨inv.set hr0 hn0, by
          have : 0 < listed.size := by rw [inv.size]; omega
          simp [this]⟩
        have hall : ∀ j, j < i → (listed.setIfInBounds 0 true).getD j true = true := fun j hj => by
          cases e : (listed.setIfInBounds 0 true).getD j true with
          | true => rfl
          | false => exact absurd (ready_mono hi (by omega)) (inv'.wait hs hc hn j hj e i (Nat.le_refl i))
        have hL : listed = listedB ops i := by
          refine Array.ext (by simp [listedB, inv.size]) fun j h1 h2 => ?_
          have hjs : j < ops.size := by rw [← inv.size]; exact h1
          simp only [listedB, List.getElem_toArray, List.getElem_map, List.getElem_range]
          by_cases hj0 : j = 0
          · subst hj0
            have : listed[0] = false := by simpa [h1] using h00
            rw [this]
            rfl
          · by_cases hji : j < i
            · have := hall j hji
              rw [getD_set_ne true (Ne.symm hj0)] at this
              have : listed[j] = true := by simpa [h1] using this
              rw [this]
              have e1 : Nat.blt 0 j = true := by simp; omega
              have e2 : Nat.blt j i = true := by simpa using hji
              rw [e1, e2]
              rfl
            · have := inv.tail j (by omega) hjs
              have : listed[j] = false := by simpa [h1] using this
              rw [this]
              have e2 : Nat.blt j i = false := by
                cases e : Nat.blt j i
                · rfl
                · exact absurd (by simpa using e) hji
              rw [e2, Bool.and_false]
        have hr0' := (hsub 0 (by omega)).2 hr0
        obtain ⟨_, h1⟩ := h.2 0 hr0'
        obtain ⟨_, h2⟩ := h1 o0 (by rw [patched_ne (by omega)]; exact ho0)
        have hf : fuel = 0 := by
          cases fuel with
          | zero => rfl
          | succ fuel =>
            exfalso
            obtain ⟨h3, h4⟩ := h2 _ (ks 0).ok_pick
            obtain ⟨j, hj⟩ := List.exists_mem_of_ne_nil _ h3
            have hjn := (h4 j hj).1
            have := (mem_ready.1 hj).1
            rw [hall j hjn] at this
            cases this
        subst hf
        have := hB G a w hw hG fun v hv => (by have := h2 v hv; rw [hL] at this; exact this)
        rw [hL, Nat.zero_add]
        exact this
      · have hi' := (hsub i hin).2 hi
        unfold wpOp
        split
        · rename_i ho
          obtain ⟨_, o, ho', _⟩ := mem_ready.1 hi
          rw [ho] at ho'; cases ho'
        · rename_i o ho
          obtain ⟨h1, h2⟩ := (h.2 i hi').2 o (by rw [patched_ne hin]; exact ho)
          have hil := (h.2 i hi').1
          unfold AskT at h1
          rw [yielded_patched] at h1
          split
          · rename_i hwt
            rw [if_pos hwt] at h1
            refine .inl (wp_of_grows (h1 w hw fun f hf _ _ _ => hG f hf) fun v w' hR hok hp => ?_)
            refine wpAny_of_TLf hC hks hn0 hn ho0 hd0 hs hc hA hB fuel _ _ _ w' (inv.set hi hil) (hC _ _ hR hw) (fun f hf => ?_) (fun f hf => ?_) (h2 v hok)
            · rcases List.mem_cons.1 hf with rfl | hf
              · exact hp
              · exact hst f hf _ _ hR (hG f hf)
            · rcases List.mem_cons.1 hf with rfl | hf
              · exact hks i v
              · exact hst f hf
          · rename_i hwt
            rw [if_neg hwt] at h1
            refine wpAny_of_TLf hC hks hn0 hn ho0 hd0 hs hc hA hB fuel _ _ _ w (inv.set hi hil) hw (fun f hf => ?_) (fun f hf => ?_) (h2 undef h1.1)
            · rcases List.mem_cons.1 hf with rfl | hf
              · exact h1.2 w
              · exact hG f hf
            · rcases List.mem_cons.1 hf with rfl | hf
              · exact hks i undef
              · exact hst f hf
theorem wp_region_float2 {id : Nat} {Q : Exit → Act → World → Prop} {a : Act} {w : World} {l : List Oper} (n : Nat) (C : World → Prop) (R : World → World → Prop) (k0 : Kind) (kl : List Kind) (Z ZX : List Fact → Act → Prop) {o0 on : Oper} (hm : P.follows .mixedOrders = true)
    (hB : float2B l.toArray n = true) (ho : l.toArray[0]? = some o0) (hon : l.toArray[n]? = some on) (hC : Stays R C) (hk0 : ∀ v, Stays R (k0.pred v)) (hks : AllStay R kl) (h0 : C w.drew) (hZ : ∀ G G' a, (∀ f ∈ G, f ∈ G') → Z G a → Z G' a)
    (hA : ∀ G a, Z G a → ∀ w', C w' → (∀ f ∈ G, f.2 w') → wpList P l.toArray Q (l.drop n) a w')
    (hX : ∀ G a v, k0.ok v → Z ((o0.dst, k0.pred v) :: G) (a.put o0.dst v) → ZX G a)
    (hB2 : ∀ G a, ZX G a → ∀ w', C w' → (∀ f ∈ G, f.2 w') → wpList P l.toArray Q (on :: o0 :: l.drop (n + 1)) a w')
    (h : wpT P (patched l.toArray n) R C Z (l.take n) (k0 :: kl) [] a) : (Code.region id l.toArray true).wp P Q a w := by
  simp only [float2B, Bool.and_eq_true, decide_eq_true_eq, ho] at hB
  obtain ⟨⟨⟨hT, hn0⟩, hd0⟩, hseq⟩ := hB
  simp only [Region.lexTailB, Bool.and_eq_true, decide_eq_true_eq, patched_size] at hT
  obtain ⟨⟨⟨⟨hsel, hn⟩, hs⟩, hc⟩, hlex⟩ := hT
  have hn' : n < l.length := by simpa using hn
  have htl : (l.take n).length = n := by simp; omega
  have hdl : (l.drop n).length = l.toArray.size - n := by simp
  have inv0 : HeadInv .any l.toArray n (Array.replicate l.toArray.size false) :=
    ⟨by simp, fun j oj _ hl => (by rw [getD_replicate_false] at hl; cases hl), fun t _ ht => getD_in (by simpa using ht) (getD_replicate_false _ _)⟩
  have inv1 : HeadInv .any (patched l.toArray n) n (Array.replicate l.toArray.size false) :=
    ⟨by simp [patched_size], fun j oj _ hl => (by rw [getD_replicate_false] at hl; cases hl), fun t _ ht => getD_in (by simpa [patched_size] using ht) (getD_replicate_false _ _)⟩
  have hks' : ∀ i v, Stays R (((fun i => (k0 :: kl).getD i (Kind.is undef)) i).pred v) := fun i v => by
    cases i with
    | zero => exact hk0 v
    | succ i =>
      simp only [List.getD, List.getElem?_cons_succ]
      cases hk : kl[i]? with
      | none => exact fun _ _ _ _ => trivial
      | some k => exact hks.mem k (List.mem_of_getElem? hk) v
  have H := wpAnyTL_lex (md := .any) (ops := patched l.toArray n) (ks := fun i => (k0 :: kl).getD i (Kind.is undef)) (g := l.toArray.size - n) (Q := Z) hZ hsel hs hc (by rw [patched_size]; exact hn) (l.take n) (k0 :: kl) 0 _ [] a (fun j hj => by
    have hj' : j < n := by rw [htl] at hj; exact hj
    rw [Nat.zero_add, patched_ne (by omega)]
    simp [hj']) (fun j k hj => by simp [List.getD, hj]) (by simpa using htl) inv1 (by rw [htl]; exact hlex) h
  refine wp_region_any hm ?_
  have hsub : ∀ listed j, j ≠ n → (j ∈ Region.ready .any (patched l.toArray n) listed ↔ j ∈ Region.ready .any l.toArray listed) := fun listed j hj => by
    rw [mem_ready, mem_ready, patched_ne hj]
  have := wpAny_of_TLf (md := .any) (ops := l.toArray) (L := fun listed' G' a' => Region.seqB .any (patched l.toArray n) (l.toArray.size - n) n listed' = true ∧ Z G' a') (Q' := Q) (g := l.toArray.size - n) (C := C) (R := R) hC hks' hn0 hn ho (fun e he hb => by
      have := Array.all_eq_true_iff_forall_mem.1 hd0 e he
      rw [hb] at this
      cases this) hs hc (fun listed G a' w' hw hG hL => ?_) (fun G a' w' hw hG hv => ?_) _ _ [] a w.drew inv0 h0 (fun f hf => by cases hf) (fun f hf => by cases hf) H
  · rw [htl, show n + (l.toArray.size - n) = l.toArray.size by omega] at this
    exact this
  · obtain ⟨h1, h2⟩ := hL
    have hz : listed.getD 0 false = true := by
      obtain ⟨m, hm'⟩ : ∃ m, l.toArray.size - n = m + 1 := ⟨l.toArray.size - n - 1, by omega⟩
      rw [hm'] at h1
      simp only [Region.seqB, Bool.and_eq_true, decide_eq_true_eq] at h1
      have hr : n ∈ Region.ready .any (patched l.toArray n) listed := by rw [h1.1]; exact List.mem_cons_self
      obtain ⟨_, o, ho', hall⟩ := mem_ready.1 hr
      rw [patched_eq hon] at ho'
      obtain rfl := Option.some.inj ho'
      exact hall { on := 0, ground := .phase } (Array.mem_push.2 (.inr rfl)) rfl
    rw [seqB_patched _ _ _ hz] at h1
    have := wpAny_of_seq (md := .any) (Q' := Q) (l.drop n) n listed a' w' (fun j => by simp [List.getElem?_drop]) (by rw [hdl]; exact h1) (hA G a' h2 w' hw hG)
    rwa [hdl] at this
  · obtain ⟨_, h1⟩ := hv _ k0.ok_pick
    have h2 := hB2 G a' (hX G a' _ k0.ok_pick h1) w' hw hG
    have hop : wpOp P l.toArray Q n (wpList P l.toArray Q (o0 :: l.drop (n + 1))) a' w' := by unfold wpOp; simp only [hon]; exact h2
    refine wpOp_mono (fun a2 w2 h3 => ?_) hop
    have := wpAny_of_seqL (md := .any) (ops := l.toArray) (o0 :: l.drop (n + 1)) (0 :: List.range' (n + 1) (l.toArray.size - n - 1)) _ a2 w2 (by simp; omega) (fun j k hj => ?_) hseq h3
    · have hlen : (o0 :: l.drop (n + 1)).length = l.toArray.size - n := by simp; omega
      rwa [hlen] at this
    · cases j with
      | zero =>
        simp only [List.getElem?_cons_zero, Option.some.injEq] at hj
        subst hj
        simpa using ho.symm
      | succ j =>
        simp only [List.getElem?_cons_succ] at hj ⊢
        obtain ⟨hlt, hk⟩ := List.getElem?_eq_some_iff.1 hj
        simp only [List.getElem_range', Nat.one_mul] at hk
        rw [List.getElem?_drop, ← hk, List.getElem?_toArray]
end
end Go.Proofs.YtekeanikgcpijaaDoor
