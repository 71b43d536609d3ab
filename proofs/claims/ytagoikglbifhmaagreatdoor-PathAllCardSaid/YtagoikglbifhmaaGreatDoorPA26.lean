/- Part 26 of what the last text of this claim is proved by: walks over the program, and the math behind them. Conditions: as each theorem says. -/
import Derived.Test.YtagoikglbifhmaaGreatDoorPA25
namespace Go.Proofs.YtagoikglbifhmaaGreatDoor
open Go.RowKit
abbrev atv (r : Nat) (v0 : Value) : IV := .via r fun a u => u = a ∧ a = v0
abbrev pinv (r : Nat) (v0 : Value) : IV := .via r fun a _ => a = v0
theorem atv_is (r : Nat) (v0 : Value) : Imp (atv r v0) (.is v0) := fun w D M V v h => by
  obtain ⟨h1, h2⟩ := (show v = V r ∧ V r = v0 from h)
  subst h1
  rw [h2]
  exact .cell v0
section
variable {P : Program} {cx : Cx} {T : TL} {B : BL} {R : RL} {M : Nat → Nat} {V : Nat → Value} {o : Oper}
theorem Rel.appended {a : Act} {w w' : World} (hrel : Rel cx T B R M V a w) {r k n m d : Nat} {ty : TypeId} {ds es : List Dat} {v' : Value} {xs news : List Value} (hr : lk r R = some ⟨ty, k, n, ds, false⟩) (hfx : Fits w (Dc cx B R M V w) ds xs) (hfe : Fits w (Dc cx B R M V w) es news) (hown' : w'.ownsRow 0 ty k v' (n + m) (xs ++ news)) (hgr : w.grownBy w' (obk (V r))) (hblk : obk v' = obk (V r) ∨ obk v' = some w.heap.size) (hn : Nat.blt d cx.n = true) (hty : Nat.blt ty 1000000 = true) :
    ∃ V', V' r = v' ∧ Rel cx ((d, .own r) :: killT r T) (killB r B) ((r, ⟨ty, k, n + m, ds ++ es, false⟩) :: R) M V' (a.put (some d) v') w' := by
  have hh := hrel.heap
  have hro : ∀ g, obk (V r) = some g → cx.w0.heap.size ≤ g ∨ cx.bor g := fun g hg => hh.ro r _ g hr rfl hg
  have hDne : ∀ g, Dc cx B R M V w g → some g ≠ obk (V r) := fun g hg e => by
    rcases hg with hg | ⟨_, _, _, a4⟩
    · have := hh.d0 g hg
      rcases hro g e.symm with h | h
      · omega
      · exact this.2 h
    · exact a4 r _ hr rfl e.symm
  have hkeep : Keeps (Dc cx B R M V w) w w' := .of_grown hgr (fun g hg => hh.dlt hg) hDne
  let V' : Nat → Value := fun q => if q = r then v' else V q
  have hVr : V' r = v' := if_pos rfl
  have hV : ∀ q, q ≠ r → V' q = V q := fun q h => if_neg h
  have hblt : ∀ c x, lk c B = some x → M c < w.heap.size := fun c x hx => by
    obtain ⟨_, cs, h2, _⟩ := hh.box c x hx
    exact h2.lt
  have hlkB : ∀ c x, lk c (killB r B) = some x → ∃ y, lk c B = some y ∧ x = ⟨y.ty, y.cs.map (·.kill r)⟩ := fun c x hx => by
    unfold killB at hx
    rw [lk_map (fun y : Bx => (⟨y.ty, y.cs.map (·.kill r)⟩ : Bx)), Option.map_eq_some_iff] at hx
    obtain ⟨y, h1, h2⟩ := hx
    exact ⟨y, h1, h2.symm⟩
  have hnew : ∀ g, obk v' = some g → obk (V r) = some g ∨ g = w.heap.size := fun g hg => by
    rcases hblk with h | h
    · exact .inl (h ▸ hg)
    · rw [h] at hg
      exact .inr (by simpa using hg.symm)
  have hD : ∀ g, Dc cx B R M V w g → Dc cx (killB r B) ((r, ⟨ty, k, n + m, ds ++ es, false⟩) :: R) M V' w' g := fun g hg => by
    have hgl := hh.dlt hg
    have hgn := hDne g hg
    rcases hg with hg | ⟨a1, a2, a3, a4⟩
    · exact .inl hg
    · refine .inr ⟨a1, by have := hgr.size; omega, fun c x hx => ?_, fun q x hx hf e => ?_⟩
      · obtain ⟨y, hy, _⟩ := hlkB c x hx
        exact a3 c y hy
      · rcases lk_cons hx with ⟨rfl, rfl⟩ | ⟨hne, hx⟩
        · rw [hVr] at e
          rcases hnew g e with e | e
          · exact hgn e.symm
          · omega
        · rw [hV q (Ne.symm hne)] at e
          exact a4 q x hx hf e
  have hrel' : Rel cx ((d, .own r) :: killT r T) (killB r B) ((r, ⟨ty, k, n + m, ds ++ es, false⟩) :: R) M V' (a.put (some d) v') w' := by
    refine ⟨by simpa [Act.put] using hrel.size, hrel.defers, ⟨hh.below.turn hgr.os hgr.tape hgr.output hgr.size _ hro (fun k hk hne => hgr.block k hk hne), hh.d0, hh.bl, hh.gl, fun c x hx => ?_, fun q x hx => ?_, fun q x g hx hf hg => ?_, hh.pin, fun c e x y hx hy he => ?_, fun c q x y g hx hy hf hg => ?_, fun q p x y g hx hy hf hf' hg hg' => ?_⟩, fun t x hx => ?_⟩
    · obtain ⟨y, hy, rfl⟩ := hlkB c x hx
      obtain ⟨a1, cs, a2, a3⟩ := hh.box c y hy
      refine ⟨a1, cs, a2.grown hgr fun e => hh.br c r y _ (M c) hy hr rfl e.symm rfl, by simpa using a3.1, fun j z u hz hu => ?_⟩
      simp only [List.getElem?_map, Option.map_eq_some_iff] at hz
      obtain ⟨z0, hz0, rfl⟩ := hz
      have := a3.2 j z0 u hz0 hu
      exact ⟨(this.1.kill.newV hV (IV.nor_kill r z0)).stay hkeep hD, this.2⟩
    · rcases lk_cons hx with ⟨rfl, rfl⟩ | ⟨hne, hx⟩
      · rw [hVr]
        have : Gx w' (Dc cx (killB r B) ((r, ⟨ty, k, n + m, ds ++ es, false⟩) :: R) M V' w') 0 ty k v' (n + m) (ds ++ es) := ⟨_, .inl ⟨hty, hown'⟩, (hfx.append hfe).stay hkeep hD⟩
        exact this
      · rw [hV q (Ne.symm hne)]
        have h1 := hh.row q x hx
        split
        · rename_i hf
          rw [if_pos hf] at h1
          exact h1.stay hkeep hD
        · rename_i hf
          rw [if_neg hf] at h1
          obtain ⟨ys, a2, a3⟩ := h1
          refine ⟨ys, Ow.stay a2 fun g hg => hgr.block g (a2.lt g hg).2 fun e => ?_, a3.stay hkeep hD⟩
          exact hne (hh.rr r q _ x g hr hx rfl (by simpa using hf) e.symm hg)
    · rcases lk_cons hx with ⟨rfl, rfl⟩ | ⟨hne, hx⟩
      · rw [hVr] at hg
        rcases hnew g hg with e | e
        · exact hro g e
        · rw [e]
          exact .inl hh.below.size
      · rw [hV q (Ne.symm hne)] at hg
        exact hh.ro q x g hx hf hg
    · obtain ⟨x', hx', _⟩ := hlkB c x hx
      obtain ⟨y', hy', _⟩ := hlkB e y hy
      exact hh.bb c e x' y' hx' hy' he
    · obtain ⟨x', hx', _⟩ := hlkB c x hx
      rcases lk_cons hy with ⟨rfl, rfl⟩ | ⟨hne, hy⟩
      · rw [hVr] at hg
        rcases hnew g hg with e | e
        · exact hh.br c r x' _ g hx' hr rfl e
        · have := hblt c x' hx'
          omega
      · rw [hV q (Ne.symm hne)] at hg
        exact hh.br c q x' y g hx' hy hf hg
    · have hold : ∀ q x g, q ≠ r → lk q R = some x → x.fz = false → obk (V q) = some g → obk v' ≠ some g := fun q x g hq hx hf hg e => by
        rcases hnew g e with e | e
        · exact hq (hh.rr q r x _ g hx hr hf rfl hg e)
        · have h1 := hh.row q x hx
          rw [hf] at h1
          obtain ⟨ys, a2, _⟩ := h1
          have := (a2.lt g hg).2
          omega
      rcases lk_cons hx with ⟨rfl, rfl⟩ | ⟨hne, hx⟩
      · rcases lk_cons hy with ⟨rfl, rfl⟩ | ⟨hne', hy⟩
        · rfl
        · rw [hVr] at hg
          rw [hV p (Ne.symm hne')] at hg'
          exact absurd hg (hold p y g (Ne.symm hne') hy hf' hg')
      · rcases lk_cons hy with ⟨rfl, rfl⟩ | ⟨hne', hy⟩
        · rw [hVr] at hg'
          rw [hV q (Ne.symm hne)] at hg
          exact absurd hg' (hold q x g (Ne.symm hne) hx hf hg)
        · rw [hV q (Ne.symm hne)] at hg
          rw [hV p (Ne.symm hne')] at hg'
          exact hh.rr q p x y g hx hy hf hf' hg hg'
    · rw [getD_put a d t _ (by rw [hrel.size]; exact blt_lt hn)]
      rcases lk_cons hx with ⟨rfl, rfl⟩ | ⟨hne, hx⟩
      · rw [if_pos rfl]
        exact hVr.symm
      · rw [if_neg hne]
        unfold killT at hx
        rw [lk_map (fun y : IV => y.kill r), Option.map_eq_some_iff] at hx
        obtain ⟨z0, hz0, rfl⟩ := hx
        exact ((hrel.tmp t z0 hz0).kill.newV hV (IV.nor_kill r z0)).stay hkeep hD
  exact ⟨V', hVr, hrel'⟩
theorem Rel.own_newD {a : Act} {w w' : World} (hrel : Rel cx T B R M V a w) (hb : Below w.heap.size w w') {ty k n : Nat} {v : Value} {cs : List Value} {ds : List Dat} (hds : Fits w' (Dc cx B R M V w) ds cs) (hown : w'.ownsRow w.heap.size ty k v n cs) (r : Nat) (hT : norT r T = true) (hB : norB r B = true) (hty : Nat.blt ty 1000000 = true) : ∃ V', V' r = v ∧ Rel cx T B ((r, ⟨ty, k, n, ds, false⟩) :: R) M V' a w' := by
  have hh := hrel.heap
  have hsz := hh.below.size
  let V' : Nat → Value := fun q => if q = r then v else V q
  have hVr : V' r = v := if_pos rfl
  have hV : ∀ q, q ≠ r → V' q = V q := fun q h => if_neg h
  have hlt : ∀ g, obk v = some g → w.heap.size ≤ g ∧ g < w'.heap.size := fun g hg => hown.lt g ((obk_row hown).symm.trans hg)
  have hown0 : w'.ownsRow 0 ty k v n cs := by
    refine ⟨hown.1, ?_⟩
    rcases hown.2 with h | ⟨g, cap, cur, h1, _, h3⟩
    · exact .inl h
    · exact .inr ⟨g, cap, cur, h1, Nat.zero_le _, h3⟩
  have hold : ∀ q x g, lk q R = some x → x.fz = false → obk (V q) = some g → g < w.heap.size := fun q x g hx hf hg => by
    have h1 := hh.row q x hx
    rw [hf] at h1
    obtain ⟨ys, a2, _⟩ := h1
    exact (a2.lt g hg).2
  have hoB : ∀ b x, lk b B = some x → M b < w.heap.size := fun b x hx => by
    obtain ⟨_, cs, h2, _⟩ := hh.box b x hx
    exact h2.lt
  have hk := hh.keeps hb
  have hD : ∀ g, Dc cx B R M V w g → Dc cx B ((r, ⟨ty, k, n, ds, false⟩) :: R) M V' w' g := fun g hg => by
    have hgl := hh.dlt hg
    rcases hg with hg | ⟨a1, a2, a3, a4⟩
    · exact .inl hg
    · refine .inr ⟨a1, by have := hb.size; omega, a3, fun q x hx hf e => ?_⟩
      rcases lk_cons hx with ⟨rfl, _⟩ | ⟨hne, hx⟩
      · rw [hVr] at e
        have := (hlt g e).1
        omega
      · rw [hV q (Ne.symm hne)] at e
        exact a4 q x hx hf e
  refine ⟨V', hVr, hrel.size, hrel.defers, ⟨hh.below.step hb, hh.d0, hh.bl, hh.gl, fun b x hx => ?_, fun q x hx => ?_, fun q x g hx hf hg => ?_, hh.pin, hh.bb, fun b q x y g hx hy hf hg => ?_, fun q p x y g hx hy hf hf' hg hg' => ?_⟩, fun t x hx => ?_⟩
  · obtain ⟨a1, cs, a2, a3⟩ := hh.box b x hx
    have hn := List.all_eq_true.1 hB _ (lk_mem hx)
    have a4 : CFit w (Dc cx B R M V w) M V' x.cs cs := ⟨a3.1, fun j y v h1 h2 => ⟨(a3.2 j y v h1 h2).1.newV hV (List.all_eq_true.1 hn _ (List.mem_of_getElem? h1)), (a3.2 j y v h1 h2).2⟩⟩
    exact ⟨a1, cs, a2.kept hb, a4.stay hk hD⟩
  · rcases lk_cons hx with ⟨rfl, rfl⟩ | ⟨hne, hx⟩
    · rw [hVr]
      exact (⟨cs, .inl ⟨hty, hown0⟩, hds.stay (Keeps.refl _ _) hD⟩ : Gx _ _ _ _ _ _ _ _)
    · rw [hV q (Ne.symm hne)]
      have h1 := hh.row q x hx
      split
      · rename_i hf
        rw [if_pos hf] at h1
        exact h1.stay hk hD
      · rename_i hf
        rw [if_neg hf] at h1
        obtain ⟨xs, a2, a3⟩ := h1
        exact ⟨xs, Ow.stay a2 fun g hg => hb.block g (a2.lt g hg).2, a3.stay hk hD⟩
  · rcases lk_cons hx with ⟨rfl, rfl⟩ | ⟨hne, hx⟩
    · rw [hVr] at hg
      have := (hlt g hg).1
      exact .inl (by omega)
    · rw [hV q (Ne.symm hne)] at hg
      exact hh.ro q x g hx hf hg
  · rcases lk_cons hy with ⟨rfl, rfl⟩ | ⟨hne, hy⟩
    · rw [hVr] at hg
      have := (hlt g hg).1
      have := hoB b x hx
      omega
    · rw [hV q (Ne.symm hne)] at hg
      exact hh.br b q x y g hx hy hf hg
  · rcases lk_cons hx with ⟨rfl, rfl⟩ | ⟨hne, hx⟩
    · rcases lk_cons hy with ⟨rfl, rfl⟩ | ⟨hne', hy⟩
      · rfl
      · rw [hVr] at hg
        rw [hV p (Ne.symm hne')] at hg'
        have := (hlt g hg).1
        have := hold p y g hy hf' hg'
        omega
    · rcases lk_cons hy with ⟨rfl, rfl⟩ | ⟨hne', hy⟩
      · rw [hVr] at hg'
        rw [hV q (Ne.symm hne)] at hg
        have := (hlt g hg').1
        have := hold q x g hx hf hg
        omega
      · rw [hV q (Ne.symm hne)] at hg
        rw [hV p (Ne.symm hne')] at hg'
        exact hh.rr q p x y g hx hy hf hf' hg hg'
  · exact ((hrel.tmp t x hx).newV hV (List.all_eq_true.1 hT _ (lk_mem hx))).stay hk hD
theorem e_litD (r : Nat) {ops : Array Oper} {Q : Exit → Act → World → Prop} {l : List Oper} {d : Nat} {t e : TypeId} {len k : Nat} {parts : List (Nat × Operand)} (ps : List (Nat × Part)) {zs : List Value} {zd : List Dat} {ds : List Dat} (hg : o.guard = none) (hd : o.dst = some d) (hn : Nat.blt d cx.n = true) (ho : o.op = .buildSlice t len parts.toArray) (hp : KnL T parts ps) (h1 : ps.all (·.2.isOne) = true) (ht : P.underlying t = some (.slice e)) (hs : sizeT P e = some k) (hz : zeroT P e = some zs) (hzd : ∀ w D, Fits w D zd (List.replicate len zs).flatten)
    (hzk : Nat.beq zs.length k = true) (hzl : Nat.blt 0 k = true) (hpos : Nat.blt 0 len = true) (hsm : Nat.ble (len * k) 16777216 = true) (hf : fillD (fun i => some (i * k, k)) zd ps = some ds)
    (hT : norT r T = true) (hB : norB r B = true) (hE : E cx ((d, .own r) :: T) B ((r, ⟨e, k, len, ds, false⟩) :: R) (wpList P ops Q l)) (hty : Nat.blt e 1000000 = true := by rfl) : E cx T B R (wpList P ops Q (o :: l)) := fun M V a w hrel => by
  obtain rfl := Nat.eq_of_beq_eq_true hzk
  obtain ⟨hl, hgt⟩ := hp.get
  have hzl' : 0 < zs.length := by simpa using hzl
  have hpos' : 0 < len := by simpa using hpos
  have hsm' := Nat.le_of_ble_eq_true hsm
  cases hi : P.info? e with
  | none => simp [zeroT, hi] at hz
  | some it =>
    cases hzz : it.zero with
    | none => simp [zeroT, hi, hzz] at hz
    | some z =>
      have hzc : z.cells = zs.toArray := by
        have : z.cells.toList = zs := by simpa [zeroT, hi, hzz] using hz
        rw [← this]
      have hsz : it.size = zs.length := by simpa [sizeT, hi] using hs
      obtain ⟨out, ho1, ho2⟩ := fill_fit (w := w) (D := Dc cx B R M V w) (place := fun i => some (i * zs.length, zs.length)) (vs := parts.map fun x => (x.1, a.eval x.2)) (cells := (Array.range (len * zs.length)).map (zs.toArray[· % zs.toArray.size]!)) hf (by rw [zero_mod zs]; exact hzd _ _) (by simp [hl]) (fun j i p i' v hj hv => by
          rw [List.getElem?_map, Option.map_eq_some_iff] at hv
          obtain ⟨⟨i2, x⟩, hx1, hx2⟩ := hv
          obtain ⟨rfl, rfl⟩ : i2 = i' ∧ a.eval x = v := by simpa using hx2
          obtain ⟨e, hkx⟩ := hgt j i2 x i p hx1 hj
          have hpf : PFit _ _ p (a.eval x) := hkx w (Dc cx B R M V w) M V a fun t z' _ hz => hrel.tmp t z' hz
          refine ⟨e.symm, hpf, fun d hd => ?_⟩
          subst hd
          have := List.all_eq_true.1 h1 _ (List.mem_of_getElem? hj)
          exact Lies.one hpf this)
      have hrun := run_buildSlice (P := P) w t e len (parts.map fun x => (x.1, a.eval x.2)).toArray out it z ht hi hzz (by rw [hsz]; omega) (by rw [hsz]; exact Nat.ne_of_gt (Nat.mul_pos hpos' hzl')) (by rw [hsz, hzc]; simpa using ho1)
      have hb : Below w.heap.size w (w.alloc (.cells out e)) := (Below.refl _ _).alloc (Nat.le_refl _) _
      have hlen : out.size = len * zs.length := by
        have := fillD_len hf
        have h2 := (hzd w (Dc cx B R M V w)).1
        have h4 : out.size = ds.length := by
          have := ho2.1
          rw [Array.length_toList] at this
          exact this.symm
        rw [h4, this, h2]
        simp
      have hmax : len ≤ maxLen := by
        have : len ≤ len * zs.length := Nat.le_mul_of_pos_right _ hzl'
        unfold maxLen
        omega
      have hown : (w.alloc (.cells out e)).ownsRow w.heap.size e zs.length (.slice (some ⟨w.heap.size, 0, none⟩) len len) len out.toList :=
        ⟨by rw [Array.length_toList, hlen], .inr ⟨w.heap.size, len, out, rfl, Nat.le_refl _, heap_alloc_new w _, Nat.le_refl _, hmax, hlen, by rw [List.take_of_length_le (by rw [Array.length_toList, hlen]; exact Nat.le_refl _)]⟩⟩
      obtain ⟨V', hVr, hr0⟩ := hrel.own_newD hb (ho2.stay (hrel.heap.keeps hb) fun _ hg => hg) hown r hT hB hty
      refine wpList_plain hg fun K hK => ?_
      have hex : (execOp a.eval o).run P w = .ok (.value (.slice (some ⟨w.heap.size, 0, none⟩) len len)) (w.alloc (.cells out e)) := by
        unfold execOp
        simp only [ho, List.map_toArray]
        rw [Sem.run_bind, hrun]
        rfl
      unfold Oper.wp
      rw [hex]
      simp only [Oper.upon, hd]
      refine hK _ _ ?_
      exact hE M V' _ _ (hr0.put (Below.refl _ _) (blt_lt hn) hVr.symm)
theorem e_ghost {K : Act → World → Prop} (t : Nat) {b j : Nat} {bx : Bx} {x y : IV} (hb : lk b B = some bx) (hj : bx.cs[j]? = some x) (hi : ∀ (w : World) (D : Nat → Prop) (M : Nat → Nat) (V : Nat → Value) (v u : Value), VR w D M V x v → VR w D M V y u) (h : E cx ((t, y) :: T) B R K) : E cx T B R K := fun M V a w hr => h M V a w ⟨hr.size, hr.defers, hr.heap, fun s z hz => by
  rcases lk_cons hz with ⟨rfl, rfl⟩ | ⟨_, hz⟩
  · obtain ⟨_, cs, h1, h2⟩ := hr.heap.box b bx hb
    have hlt : j < cs.length := by
      rw [← h2.1]
      rcases Nat.lt_or_ge j bx.cs.length with h | h
      · exact h
      · rw [List.getElem?_eq_none h] at hj; cases hj
    exact hi _ _ _ _ _ _ (h2.2 j x cs[j] hj (List.getElem?_eq_getElem hlt)).1
  · exact hr.tmp s z hz⟩
theorem e_pin_of {K : Act → World → Prop} (t : Nat) {b j r : Nat} {v0 : Value} {bx : Bx} (hb : lk b B = some bx) (hj : bx.cs[j]? = some (atv r v0)) (h : E cx ((t, pinv r v0) :: T) B R K) : E cx T B R K := e_ghost (y := pinv r v0) t hb hj (fun _ _ _ _ _ _ h => h.2) h
theorem e_pin_slot {K : Act → World → Prop} (s : Nat) {t r : Nat} {v0 : Value} (ht : lk t T = some (atv r v0)) (h : E cx ((s, pinv r v0) :: T) B R K) : E cx T B R K := fun M V a w hr => h M V a w ⟨hr.size, hr.defers, hr.heap, fun q z hz => by
  rcases lk_cons hz with ⟨rfl, rfl⟩ | ⟨_, hz⟩
  · exact (show _ ∧ _ from hr.tmp t _ ht).2
  · exact hr.tmp q z hz⟩
theorem VR.atv_of {w : World} {D : Nat → Prop} {r : Nat} {v0 v : Value} (h : VR w D M V (.is v0) v) (hp : V r = v0) : VR w D M V (atv r v0) v := by
  have h1 : v = v0 := Lies.cell_eq h
  exact ⟨h1.trans hp.symm, hp⟩
theorem e_repin {K : Act → World → Prop} {t b r : Nat} {v0 : Value} {bx : Bx} (ht : lk t T = some (pinv r v0)) (hb : lk b B = some bx) (hc : bx.cs = [.is v0]) (h : E cx T ((b, ⟨bx.ty, [atv r v0]⟩) :: B) R K) : E cx T B R K := fun M V a w hr => h M V a w (by
  have hp : V r = v0 := hr.tmp t _ ht
  have hh := hr.heap
  have hlk : ∀ c x, lk c ((b, (⟨bx.ty, [atv r v0]⟩ : Bx)) :: B) = some x → ∃ y, lk c B = some y := fun c x hx => by
    rcases lk_cons hx with ⟨rfl, _⟩ | ⟨_, hx⟩
    · exact ⟨bx, hb⟩
    · exact ⟨x, hx⟩
  have hD : ∀ g, Dc cx B R M V w g → Dc cx ((b, (⟨bx.ty, [atv r v0]⟩ : Bx)) :: B) R M V w g := fun g hg => by
    rcases hg with hg | ⟨a1, a2, a3, a4⟩
    · exact .inl hg
    · exact .inr ⟨a1, a2, fun c x hx => by obtain ⟨y, hy⟩ := hlk c x hx; exact a3 c y hy, a4⟩
  have hk := Keeps.refl (Dc cx B R M V w) w
  refine ⟨hr.size, hr.defers, ⟨hh.below, hh.d0, hh.bl, hh.gl, fun c x hx => ?_, fun q x hx => ?_, hh.ro, hh.pin, fun c e x y hx hy he => ?_, fun c q x y g hx hy hf hg => ?_, hh.rr⟩, fun s z hz => (hr.tmp s z hz).stay hk hD⟩
  · rcases lk_cons hx with ⟨rfl, rfl⟩ | ⟨hne, hx⟩
    · obtain ⟨a1, cs, a2, a3⟩ := hh.box b bx hb
      rw [hc] at a3
      refine ⟨a1, cs, a2, a3.1, fun j x v hj hv => ?_⟩
      cases j with
      | zero =>
        obtain rfl : atv r v0 = x := by simpa using hj
        have := a3.2 0 (.is v0) v rfl hv
        exact ⟨(this.1.stay hk hD).atv_of hp, this.2⟩
      | succ j => simp at hj
    · obtain ⟨a1, cs, a2, a3⟩ := hh.box c x hx
      exact ⟨a1, cs, a2, a3.stay hk hD⟩
  · have h1 := hh.row q x hx
    split
    · rename_i hf
      rw [if_pos hf] at h1
      exact h1.stay hk hD
    · rename_i hf
      rw [if_neg hf] at h1
      obtain ⟨ys, a2, a3⟩ := h1
      exact ⟨ys, a2, a3.stay hk hD⟩
  · obtain ⟨x', hx'⟩ := hlk c x hx
    obtain ⟨y', hy'⟩ := hlk e y hy
    exact hh.bb c e x' y' hx' hy' he
  · obtain ⟨x', hx'⟩ := hlk c x hx
    exact hh.br c q x' y g hx' hy hf hg)
theorem lies_src {w : World} {D : Nat → Prop} {k m : Nat} {es : List Dat} {u : Value} (hm : 0 < m) (h : Lies w D (.row k m es) u) : ∃ ad c news, u = .slice (some ad) m c ∧ news.length = m * k ∧ (∀ (j : Nat) v, news[j]? = some v → w.cell? (ad.add j) = some v) ∧ Fits w D es news := by
  cases h with
  | none k p c => omega
  | row k n' b off c es X hn0 _ hl hDb hc hX =>
    refine ⟨⟨b, off, none⟩, c, (List.range es.length).map X, rfl, by simp [hl], fun j v hv => ?_, by simp, fun j e v he hv => ?_⟩
    · have hadd : (⟨b, off, none⟩ : Addr).add j = ⟨b, off + j, none⟩ := by unfold Addr.add; split <;> simp_all
      rw [List.getElem?_map, Option.map_eq_some_iff] at hv
      obtain ⟨i, hi, rfl⟩ := hv
      have hj : j < es.length := by
        rcases Nat.lt_or_ge j es.length with h | h
        · exact h
        · rw [List.getElem?_eq_none (by simpa using h)] at hi; cases hi
      rw [List.getElem?_range hj] at hi
      obtain rfl : j = i := by simpa using hi
      rw [hadd]
      exact hc j hj
    · rw [List.getElem?_map, Option.map_eq_some_iff] at hv
      obtain ⟨i, hi, rfl⟩ := hv
      have hj : j < es.length := by
        rcases Nat.lt_or_ge j es.length with h | h
        · exact h
        · rw [List.getElem?_eq_none h] at he; cases he
      rw [List.getElem?_range hj] at hi
      obtain rfl : j = i := by simpa using hi
      exact hX j e he
def Room (v : Value) (n m : Nat) : Prop := ∃ g c, v = .slice (some ⟨g, 0, none⟩) n c ∧ n + m ≤ c
def upv (v : Value) (m : Nat) : Value := match v with
  | .slice p n c => .slice p (n + m) c
  | v => v
theorem run_append_new {w : World} (t ty e : TypeId) (i : TypeInfo) (z : Value) (size bytes : Nat) (ht : P.underlying t = some (.slice e)) (hi : P.info? e = some i) (hz : i.zero = some z) (hsize : i.size = size) (hby : i.bytes = bytes) (hzs : z.cells.size = size)
    (v : Value) (n : Nat) (xs : List Value) (hown : w.ownsRow 0 e size v n xs) (m : Nat) (hno : ¬ Room v n m) (hm : 0 < m) (a : Addr) (c : Nat) (news : List Value) (hl : news.length = m * size) (hnews : ∀ j u, news[j]? = some u → w.cell? (a.add j) = some u)
    (h63 : n + m ≤ maxLen) (hbytes : (n + m) * bytes ≤ 140737488355328) :
    ∃ v' w', (Builtin.append_ #[t, t] ty #[v, .slice (some a) m c]).run P w = .ok v' w' ∧ w'.ownsRow w.heap.size e size v' (n + m) (xs ++ news) ∧ Below w.heap.size w w' := by
  subst hsize
  subst hby
  have hsmall : n + m ≤ 9223372036854775807 := by simp only [maxLen] at h63; omega
  have hlen : (xs ++ news).length = (n + m) * i.size := by rw [List.length_append, hown.1, hl, Nat.add_mul]
  have grown : ∀ (old : Nat), old < n + m →
      (w.drew.alloc (.cells (xs.toArray ++ news.toArray ++ Builtin.zeroCells z.cells (grownCap w (n + m) old e - (n + m))) e)).ownsRow w.heap.size e i.size
        (.slice (some ⟨w.heap.size, 0, none⟩) (n + m) (grownCap w (n + m) old e)) (n + m) (xs ++ news) ∧
      Below w.heap.size w (w.drew.alloc (.cells (xs.toArray ++ news.toArray ++ Builtin.zeroCells z.cells (grownCap w (n + m) old e - (n + m))) e)) := by
    intro old ho
    have hge := grownCap_ge w (n + m) old e
    have hcm : grownCap w (n + m) old e ≤ maxLen := grownCap_le_maxLen w (n + m) old e h63
    refine ⟨⟨hlen, .inr ⟨w.heap.size, _, _, rfl, Nat.le_refl _, heap_alloc_new w.drew _, hge, hcm, ?_, ?_⟩⟩, (Below.refl _ _).drew.alloc (Nat.le_refl _) _⟩
    · simp only [Array.size_append, List.size_toArray, size_zeroCells, hzs, hown.1, hl, ← Nat.add_mul]
      congr 1
      omega
    · simp only [Array.toList_append, List.append_assoc]
      rw [← List.append_assoc, ← hlen]
      exact List.take_left
  rcases hown.2 with ⟨rfl, rfl⟩ | ⟨g, cap, cur, rfl, hbg, hg, hnc, hcm, hcs, htake⟩
  · have hx : xs = [] := List.eq_nil_of_length_eq_zero (by simpa using hown.1)
    subst hx
    have hr := run_append_nil (P := P) w t ty e i z ht hi hz a m c news hl hnews (by omega) (by omega) (by have hb := hbytes; simp only [Nat.zero_add] at hb; omega)
    have hgr := grown 0 (by omega)
    simp only [Nat.zero_add, List.nil_append, Array.empty_append] at hgr ⊢
    exact ⟨_, _, hr, hgr.1, hgr.2⟩
  · have hroom : ¬ n + m ≤ cap := fun h => hno ⟨g, cap, rfl, h⟩
    have holds : ∀ j u, xs[j]? = some u → w.cell? ((⟨g, 0, none⟩ : Addr).add j) = some u := hown.cells (g := g) rfl
    have hr := run_append_grow (P := P) w t ty e i z ht hi hz ⟨g, 0, none⟩ n cap xs hown.1 holds a m c news hl hnews (by omega) (by omega) (growslice_fits (by omega) hbytes)
    have hgr := grown cap (by omega)
    exact ⟨_, _, hr, hgr.1, hgr.2⟩
section
variable {ops : Array Oper} {Q : Exit → Act → World → Prop} {l : List Oper}
theorem e_app_new {d : Nat} {x y : Operand} {t : TypeId} {r k m n bytes : Nat} {ty : TypeId} {ds es : List Dat} {v0 : Value} (q : Nat) (hg : o.guard = none) (hd : o.dst = some d) (hn : Nat.blt d cx.n = true) (ho : o.op = .call { callee := .builtin .append, args := #[x, y], argTypes := #[t, t] }) (hx : Kn T x (atv r v0)) (hr : lk r R = some ⟨ty, k, n, ds, false⟩) (hy : Kn T y (.part (.one (.row k m es)))) (hno : ¬ Room v0 n m) (hm : 0 < m)
    (ht : P.underlying t = some (.slice ty)) (hz : (P.info? ty).map (fun i => (i.size, i.bytes, i.zero.map (·.cells.size))) = some (k, bytes, some k)) (hb1 : n + m ≤ 140737488355328) (hb2 : (n + m) * bytes ≤ 140737488355328) (hT : norT q T = true) (hB : norB q B = true)
    (hE : E cx ((d, .own q) :: T) B ((q, ⟨ty, k, n + m, ds ++ es, false⟩) :: R) (wpList P ops Q l)) (hty : Nat.blt ty 1000000 = true := by rfl) : E cx T B R (wpList P ops Q (o :: l)) := fun M V a w hrel => by
  refine wpList_plain hg fun K hK => ?_
  have hh := hrel.heap
  obtain ⟨hxv, hpin⟩ : a.eval x = V r ∧ V r = v0 := hx w (Dc cx B R M V w) M V a fun t z _ hz => hrel.tmp t z hz
  have hyv : Lies w (Dc cx B R M V w) (.row k m es) (a.eval y) := hy w (Dc cx B R M V w) M V a fun t z _ hz => hrel.tmp t z hz
  have hrow := hh.row r _ hr
  obtain ⟨xs, hown, hfx⟩ : Gr w (Dc cx B R M V w) 0 ty k (V r) n ds := Gx.row hrow hty
  obtain ⟨ad, c, news, hu, hnl, hnx, hfe⟩ := lies_src hm hyv
  cases hi : P.info? ty with
  | none => simp [hi] at hz
  | some i =>
    cases hzz : i.zero with
    | none => simp [hi, hzz] at hz
    | some z =>
      simp only [hi, hzz, Option.map_some, Option.some.injEq, Prod.mk.injEq] at hz
      obtain ⟨z1, z2, z3⟩ := hz
      obtain ⟨v', w', hrun, hown', hb⟩ := run_append_new (P := P) t o.type ty i z k bytes ht hi hzz z1 z2 z3 (V r) n xs hown m (by rw [hpin]; exact hno) hm ad c news hnl hnx (by unfold maxLen; omega) hb2
      obtain ⟨V', hVr, hr0⟩ := hrel.own_newD hb ((hfx.append hfe).stay (hh.keeps hb) fun _ hg => hg) hown' q hT hB hty
      have := hK _ _ (hE M V' _ _ (hr0.put (Below.refl _ _) (blt_lt hn) hVr.symm))
      unfold Oper.wp execOp
      simp only [ho, resolve, invoke, builtin, Sem.run_bind, Sem.run_pure, Result.andThen_ok, List.map_toArray, List.map_cons, List.map_nil, hxv, hu, hrun]
      simp only [Oper.upon, hd]
      exact this
theorem e_app_room {d : Nat} {x y : Operand} {t : TypeId} {r k m n bytes : Nat} {ty : TypeId} {ds es : List Dat} {v0 : Value} (hg : o.guard = none) (hd : o.dst = some d) (hn : Nat.blt d cx.n = true) (ho : o.op = .call { callee := .builtin .append, args := #[x, y], argTypes := #[t, t] }) (hx : Kn T x (atv r v0)) (hr : lk r R = some ⟨ty, k, n, ds, false⟩) (hy : Kn T y (.part (.one (.row k m es)))) (hroom : Room v0 n m) (hm : 0 < m) (h1 : es.all Dat.isOne = true)
    (ht : P.underlying t = some (.slice ty)) (hz : (P.info? ty).map (fun i => (i.size, i.bytes, i.zero.map (·.cells.size))) = some (k, bytes, some k))
    (hE : E cx ((d, atv r (upv v0 m)) :: killT r T) (killB r B) ((r, ⟨ty, k, n + m, ds ++ es, false⟩) :: R) (wpList P ops Q l)) (hty : Nat.blt ty 1000000 = true := by rfl) : E cx T B R (wpList P ops Q (o :: l)) := fun M V a w hrel => by
  refine wpList_plain hg fun K hK => ?_
  have hh := hrel.heap
  obtain ⟨hxv, hpin⟩ : a.eval x = V r ∧ V r = v0 := hx w (Dc cx B R M V w) M V a fun t z _ hz => hrel.tmp t z hz
  have hyv : Lies w (Dc cx B R M V w) (.row k m es) (a.eval y) := hy w (Dc cx B R M V w) M V a fun t z _ hz => hrel.tmp t z hz
  have hrow := hh.row r _ hr
  obtain ⟨xs, hown, hfx⟩ : Gr w (Dc cx B R M V w) 0 ty k (V r) n ds := Gx.row hrow hty
  obtain ⟨ad, c, news, hu, hnl, hnx, hfe⟩ := lies_src hm hyv
  obtain ⟨g, cap, hv0, hcap⟩ := hroom
  have hVg : V r = .slice (some ⟨g, 0, none⟩) n cap := hpin.trans hv0
  cases hi : P.info? ty with
  | none => simp [hi] at hz
  | some i =>
    cases hzz : i.zero with
    | none => simp [hi, hzz] at hz
    | some z =>
      simp only [hi, hzz, Option.map_some, Option.some.injEq, Prod.mk.injEq] at hz
      obtain ⟨z1, z2, z3⟩ := hz
      subst z1
      rcases hown.2 with ⟨h0, _⟩ | ⟨g', cap', cur, h2, hbg, hgw, hnc, hcm, hcs, htake⟩
      · rw [hVg] at h0
        cases h0
      · obtain ⟨rfl, rfl⟩ : g = g' ∧ cap = cap' := by
          rw [hVg] at h2
          injection h2 with e1 e2 e3
          injection e1 with e1
          injection e1 with e1
          exact ⟨e1, e3⟩
        have hfit : n * i.size + news.length ≤ cur.size := by rw [hnl, hcs, ← Nat.add_mul]; exact Nat.mul_le_mul_right _ hcap
        have hlen : (xs ++ news).length = (n + m) * i.size := by rw [List.length_append, hown.1, hnl, Nat.add_mul]
        have hrun := run_append_room (P := P) w t o.type ty i ht hi g n cap cur hgw ad m c news hnl hnx (hfe.one h1) hcap hfit
        have hown' : (w.setRow g (cur.toList.take (n * i.size) ++ news ++ cur.toList.drop (n * i.size + news.length)).toArray).ownsRow 0 ty i.size (.slice (some ⟨g, 0, none⟩) (n + m) cap) (n + m) (xs ++ news) := by
          refine ⟨hlen, .inr ⟨g, cap, _, rfl, hbg, setRow_heap w g cur _ ty _ hgw, hcap, hcm, ?_, ?_⟩⟩
          · simp only [List.size_toArray, List.length_append, List.length_take, List.length_drop, Array.length_toList]
            omega
          · rw [htake, ← hlen]
            exact List.take_left
        have hob : obk (V r) = some g := by rw [hVg]; rfl
        have hgr : w.grownBy (w.setRow g (cur.toList.take (n * i.size) ++ news ++ cur.toList.drop (n * i.size + news.length)).toArray) (obk (V r)) := ⟨rfl, rfl, rfl, by simp, fun k _ hk => setRow_other w g k _ (fun e => hk (by rw [hob, e]))⟩
        obtain ⟨V', hVr, hr0⟩ := hrel.appended (d := d) hr hfx hfe hown' hgr (.inl hob.symm) hn hty
        have hup : upv v0 m = .slice (some ⟨g, 0, none⟩) (n + m) cap := by rw [hv0]; rfl
        have := hK _ _ (hE M V' _ _ ⟨hr0.size, hr0.defers, hr0.heap, fun s z hz => by
          rcases lk_cons hz with ⟨rfl, rfl⟩ | ⟨hne, hz⟩
          · exact ⟨hr0.tmp d _ (lk_cons_eq _ _ _), hVr.trans hup.symm⟩
          · exact hr0.tmp s z ((lk_cons_ne _ _ hne).trans hz)⟩)
        unfold Oper.wp execOp
        simp only [ho, resolve, invoke, builtin, Sem.run_bind, Sem.run_pure, Result.andThen_ok, List.map_toArray, List.map_cons, List.map_nil, hxv, hu, hVg, hrun]
        simp only [Oper.upon, hd]
        exact this
end
theorem e_trunc {K : Act → World → Prop} (s : Nat) {t r k m n : Nat} {ty : TypeId} {ds es : List Dat} {v0 : Value} (ht : lk t T = some (pinv r (upv v0 m))) (hr : lk r R = some ⟨ty, k, n + m, ds ++ es, false⟩) (hroom : Room v0 n m) (hl : ds.length = n * k) (h : E cx ((s, pinv r v0) :: killT r T) (killB r B) ((r, ⟨ty, k, n, ds, false⟩) :: R) K) (hty : Nat.blt ty 1000000 = true := by rfl) : E cx T B R K := fun M V a w hrel => by
  have hh := hrel.heap
  obtain ⟨g, cap, hv0, hcap⟩ := hroom
  have hpin : V r = upv v0 m := hrel.tmp t _ ht
  have hVg : V r = .slice (some ⟨g, 0, none⟩) (n + m) cap := hpin.trans (by rw [hv0]; rfl)
  have hrow := hh.row r _ hr
  obtain ⟨xs, hown, hfx⟩ : Gr w (Dc cx B R M V w) 0 ty k (V r) (n + m) (ds ++ es) := Gx.row hrow hty
  let V' : Nat → Value := fun q => if q = r then v0 else V q
  have hVr : V' r = v0 := if_pos rfl
  have hV : ∀ q, q ≠ r → V' q = V q := fun q h => if_neg h
  have hob : obk v0 = obk (V r) := by rw [hVg, hv0]; rfl
  have hobq : ∀ q, obk (V' q) = obk (V q) := fun q => by
    by_cases e : q = r
    · subst e
      rw [hVr, hob]
    · rw [hV q e]
  have hlkB : ∀ c x, lk c (killB r B) = some x → ∃ y, lk c B = some y ∧ x = ⟨y.ty, y.cs.map (·.kill r)⟩ := fun c x hx => by
    unfold killB at hx
    rw [lk_map (fun y : Bx => (⟨y.ty, y.cs.map (·.kill r)⟩ : Bx)), Option.map_eq_some_iff] at hx
    obtain ⟨y, h1, h2⟩ := hx
    exact ⟨y, h1, h2.symm⟩
  have hlkR : ∀ q x, lk q ((r, (⟨ty, k, n, ds, false⟩ : Rw)) :: R) = some x → ∃ y, lk q R = some y ∧ y.fz = x.fz := fun q x hx => by
    rcases lk_cons hx with ⟨rfl, rfl⟩ | ⟨_, hx⟩
    · exact ⟨_, hr, rfl⟩
    · exact ⟨x, hx, rfl⟩
  have hD : ∀ g, Dc cx B R M V w g → Dc cx (killB r B) ((r, ⟨ty, k, n, ds, false⟩) :: R) M V' w g := fun g hg => by
    rcases hg with hg | ⟨a1, a2, a3, a4⟩
    · exact .inl hg
    · refine .inr ⟨a1, a2, fun c x hx => ?_, fun q x hx hf => ?_⟩
      · obtain ⟨y, hy, _⟩ := hlkB c x hx
        exact a3 c y hy
      · obtain ⟨y, hy, hf'⟩ := hlkR q x hx
        rw [hobq]
        exact a4 q y hy (hf'.trans hf)
  have hk := Keeps.refl (Dc cx B R M V w) w
  have hfd : Fits w (Dc cx B R M V w) ds (xs.take (n * k)) := by
    refine ⟨?_, fun j d v hj hv => ?_⟩
    · have := hown.1
      have h2 := hfx.1
      rw [List.length_take, this, hl]
      have : n * k ≤ (n + m) * k := Nat.mul_le_mul_right _ (Nat.le_add_right _ _)
      omega
    · rw [List.getElem?_take] at hv
      split at hv
      · rename_i hjn
        exact hfx.2 j d v (by rw [List.getElem?_append_left (by omega)]; exact hj) hv
      · cases hv
  have hown0 : w.ownsRow 0 ty k v0 n (xs.take (n * k)) := by
    rcases hown.2 with ⟨h0, _⟩ | ⟨g', cap', cur, h2, hbg, hgw, hnc, hcm, hcs, htake⟩
    · rw [hVg] at h0
      cases h0
    · obtain ⟨rfl, rfl⟩ : g = g' ∧ cap = cap' := by
        rw [hVg] at h2
        injection h2 with e1 e2 e3
        injection e1 with e1
        injection e1 with e1
        exact ⟨e1, e3⟩
      have hle : n * k ≤ (n + m) * k := Nat.mul_le_mul_right _ (Nat.le_add_right _ _)
      refine ⟨?_, .inr ⟨g, cap, cur, hv0, hbg, hgw, by omega, hcm, hcs, ?_⟩⟩
      · rw [List.length_take, hown.1]
        omega
      · rw [← htake, List.take_take, Nat.min_eq_left hle]
  refine h M V' a w ⟨hrel.size, hrel.defers, ⟨hh.below, hh.d0, hh.bl, hh.gl, fun c x hx => ?_, fun q x hx => ?_, fun q x g hx hf hg => ?_, hh.pin, fun c e x y hx hy he => ?_, fun c q x y g hx hy hf hg => ?_, fun q p x y g hx hy hf hf' hg hg' => ?_⟩, fun t x hx => ?_⟩
  · obtain ⟨y, hy, rfl⟩ := hlkB c x hx
    obtain ⟨a1, cs, a2, a3⟩ := hh.box c y hy
    refine ⟨a1, cs, a2, by simpa using a3.1, fun j z u hz hu => ?_⟩
    simp only [List.getElem?_map, Option.map_eq_some_iff] at hz
    obtain ⟨z0, hz0, rfl⟩ := hz
    have := a3.2 j z0 u hz0 hu
    exact ⟨(this.1.kill.newV hV (IV.nor_kill r z0)).stay hk hD, this.2⟩
  · rcases lk_cons hx with ⟨rfl, rfl⟩ | ⟨hne, hx⟩
    · rw [hVr]
      exact (⟨_, .inl ⟨hty, hown0⟩, hfd.stay hk hD⟩ : Gx _ _ _ _ _ _ _ _)
    · rw [hV q (Ne.symm hne)]
      have h1 := hh.row q x hx
      split
      · rename_i hf
        rw [if_pos hf] at h1
        exact h1.stay hk hD
      · rename_i hf
        rw [if_neg hf] at h1
        obtain ⟨ys, a2, a3⟩ := h1
        exact ⟨ys, a2, a3.stay hk hD⟩
  · obtain ⟨y, hy, hf'⟩ := hlkR q x hx
    rw [hobq] at hg
    exact hh.ro q y g hy (hf'.trans hf) hg
  · obtain ⟨x', hx', _⟩ := hlkB c x hx
    obtain ⟨y', hy', _⟩ := hlkB e y hy
    exact hh.bb c e x' y' hx' hy' he
  · obtain ⟨x', hx', _⟩ := hlkB c x hx
    obtain ⟨y', hy', hf'⟩ := hlkR q y hy
    rw [hobq] at hg
    exact hh.br c q x' y' g hx' hy' (hf'.trans hf) hg
  · obtain ⟨x', hx', hfx'⟩ := hlkR q x hx
    obtain ⟨y', hy', hfy'⟩ := hlkR p y hy
    rw [hobq] at hg hg'
    exact hh.rr q p x' y' g hx' hy' (hfx'.trans hf) (hfy'.trans hf') hg hg'
  · rcases lk_cons hx with ⟨rfl, rfl⟩ | ⟨hne, hx⟩
    · exact hVr
    · unfold killT at hx
      rw [lk_map (fun y : IV => y.kill r), Option.map_eq_some_iff] at hx
      obtain ⟨z0, hz0, rfl⟩ := hx
      exact ((hrel.tmp t z0 hz0).kill.newV hV (IV.nor_kill r z0)).stay hk hD
theorem e_rowds {K : Act → World → Prop} (r : Nat) {ty : TypeId} {k n : Nat} {ds es : List Dat} (hr : lk r R = some ⟨ty, k, n, ds, false⟩) (hi : DsImp ds es) (h : E cx T B ((r, ⟨ty, k, n, es, false⟩) :: R) K) : E cx T B R K := fun M V a w hrel => by
  have hh := hrel.heap
  have hlkR : ∀ q x, lk q ((r, (⟨ty, k, n, es, false⟩ : Rw)) :: R) = some x → ∃ y, lk q R = some y ∧ y.fz = x.fz := fun q x hx => by
    rcases lk_cons hx with ⟨rfl, rfl⟩ | ⟨_, hx⟩
    · exact ⟨_, hr, rfl⟩
    · exact ⟨x, hx, rfl⟩
  have hD : ∀ g, Dc cx B R M V w g → Dc cx B ((r, ⟨ty, k, n, es, false⟩) :: R) M V w g := fun g hg => by
    rcases hg with hg | ⟨a1, a2, a3, a4⟩
    · exact .inl hg
    · refine .inr ⟨a1, a2, a3, fun q x hx hf => ?_⟩
      obtain ⟨y, hy, hf'⟩ := hlkR q x hx
      exact a4 q y hy (hf'.trans hf)
  have hk := Keeps.refl (Dc cx B R M V w) w
  refine h M V a w ⟨hrel.size, hrel.defers, ⟨hh.below, hh.d0, hh.bl, hh.gl, fun c x hx => ?_, fun q x hx => ?_, fun q x g hx hf hg => ?_, hh.pin, hh.bb, fun c q x y g hx hy hf hg => ?_, fun q p x y g hx hy hf hf' hg hg' => ?_⟩, fun t x hx => (hrel.tmp t x hx).stay hk hD⟩
  · obtain ⟨a1, cs, a2, a3⟩ := hh.box c x hx
    exact ⟨a1, cs, a2, a3.stay hk hD⟩
  · rcases lk_cons hx with ⟨rfl, rfl⟩ | ⟨hne, hx⟩
    · have h1 := hh.row r _ hr
      obtain ⟨xs, a2, a3⟩ : Gx w (Dc cx B R M V w) 0 ty k (V r) n ds := h1
      exact (⟨xs, a2, (hi.fit a3).stay hk hD⟩ : Gx _ _ _ _ _ _ _ _)
    · have h1 := hh.row q x hx
      split
      · rename_i hf
        rw [if_pos hf] at h1
        exact h1.stay hk hD
      · rename_i hf
        rw [if_neg hf] at h1
        obtain ⟨ys, a2, a3⟩ := h1
        exact ⟨ys, a2, a3.stay hk hD⟩
  · obtain ⟨y, hy, hf'⟩ := hlkR q x hx
    exact hh.ro q y g hy (hf'.trans hf) hg
  · obtain ⟨y', hy', hf'⟩ := hlkR q y hy
    exact hh.br c q x y' g hx hy' (hf'.trans hf) hg
  · obtain ⟨x', hx', hfx'⟩ := hlkR q x hx
    obtain ⟨y', hy', hfy'⟩ := hlkR p y hy
    exact hh.rr q p x' y' g hx' hy' (hfx'.trans hf) (hfy'.trans hf') hg hg'
theorem s_copy {f : FuncId} {x : Operand} {ts : Array TypeId} {r ty k n : Nat} {ds : List Dat} {g : Value → Value → Prop} (ho : o.op = .call { callee := .value (.func f), args := [x].toArray, argTypes := ts }) (hc : callable P f = true) (hx : Kn T x (.via r g)) (hgv : ∀ a u, g a u → u = a) (hr : lk r R = some ⟨ty, k, n, ds, false⟩) (h1 : ds.all Dat.isOne = true) (hf : ∀ cs : List Value, (∀ c ∈ cs, c.oneCell' = true) → cs.length = n * k → EO P cx.gl f [.one (.row k n (cs.map .cell))] ty k n cs) (hty : Nat.blt ty 1000000 = true := by rfl) :
    LStep P cx B R o T (.part (.one (.row k n ds))) := fun M V w a hh ht => by
  have hxv : a.eval x = V r := hgv _ _ (hx w (Dc cx B R M V w) M V a fun t z e hz => ht t z (by
    subst e
    rw [ho]
    simp [Op.operands, Call.operands]) hz)
  have hrun : (execOp a.eval o).run P w = .ok (.enter f ([x].map a.eval).toArray) w := by
    have he : a.eval (.func f) = .func (.func f) #[] #[] := rfl
    simp [execOp, ho, resolve, he, Deferred.ofValue, invoke, run_callable hc]
  rw [hrun]
  obtain ⟨xs, hown, hfx⟩ : Gr w (Dc cx B R M V w) 0 ty k (V r) n ds := Gx.row (hh.row r _ hr) hty
  have h2 : Gr w (fun _ => False) 0 ty k (V r) n (xs.map .cell) := ⟨xs, hown, fits_cells _ _ _⟩
  have h3 : Lies w (fun g => obk (V r) = some g) (.row k n (xs.map .cell)) (V r) := h2.lies (fun _ h => h.elim) fun g hg => (obk_row hown).trans hg
  have hlt : ∀ g, obk (V r) = some g → g < w.heap.size := fun g hg => (Ow.lt (.inl ⟨hty, hown⟩) g hg).2
  refine ⟨rfl, (hf xs (hfx.one h1) hown.1 w (fun g => obk (V r) = some g) ([x].map a.eval) hlt hh.glok ⟨by rw [hxv]; exact h3, trivial⟩).mono ?_⟩
  rintro e w' ⟨v, h4, h5, h6⟩
  refine ⟨v, h4, h5, ?_⟩
  have h7 : Gr w' (Dc cx B R M V w) w.heap.size ty k v n ds := ⟨xs, h6, hfx.stay (hh.keeps h5) fun _ hg => hg⟩
  exact h7.lies (fun g hg => hg.mono h5.size) fun g hg => hh.new (.inr (h6.lt g hg)) h5.size
theorem e_result_pin {fn : Func} {Y : IV → BL → RL → Prop} {t r : Nat} {v0 : Value} (B1 : BL) (R1 : RL) (hrs : fn.results = ([] : List ResultVar).toArray) (ht : lk t T = some (pinv r v0)) (hB : SubB B B1) (hR : SubR R R1) (hY : Y (pinv r v0) B1 R1) : ∀ M V a w, Rel cx T B R M V a w → a.defers = [] ∧ ∃ v, (results fn a.tmps).run P w = .ok v w ∧ GivesX cx Y (.returned v) w := fun M V a w hr => by
  have h3 := hr.sub (T' := []) trivial hB hR
  refine ⟨hr.defers, .tuple #[], ?_, _, pinv r v0, B1, R1, M, V, rfl, hY, h3.heap, hr.tmp t _ ht⟩
  have e : results fn a.tmps = (do let vs ← fn.results.mapM (rvRun a.tmps); pure (if h : vs.size = 1 then vs[0] else .tuple vs)) := by
    unfold results
    congr 1
  rw [e, hrs]
  simp
theorem e_end_pin {fn : Func} {Y : IV → BL → RL → Prop} {t r : Nat} {v0 : Value} (B1 : BL) (R1 : RL) (hrs : fn.results = ([] : List ResultVar).toArray) (ht : lk t T = some (pinv r v0)) (hB : SubB B B1) (hR : SubR R R1) (hY : Y (pinv r v0) B1 R1) : E cx T B R (bodyPost P fn (GivesX cx Y) .normal) := e_result_pin B1 R1 hrs ht hB hR hY
theorem e_return_pin {fn : Func} {Y : IV → BL → RL → Prop} {t r : Nat} {v0 : Value} (B1 : BL) (R1 : RL) (hrs : fn.results = ([] : List ResultVar).toArray) (ht : lk t T = some (pinv r v0)) (hB : SubB B B1) (hR : SubR R R1) (hY : Y (pinv r v0) B1 R1) : E cx T B R (bodyPost P fn (GivesX cx Y) .ret) := e_result_pin B1 R1 hrs ht hB hR hY
theorem e_row_pin {K : Act → World → Prop} (s r ty k : Nat) (hT : norT r T = true) (hB : norB r B = true) (h : E cx ((s, pinv r (.slice none 0 0)) :: T) B ((r, ⟨ty, k, 0, [], false⟩) :: R) K) (hty : Nat.blt ty 1000000 = true := by rfl) : E cx T B R K := fun M V a w hrel => by
  obtain ⟨V', hV, hr'⟩ := hrel.row_new r ty k hT hB hty
  exact h M V' a w ⟨hr'.size, hr'.defers, hr'.heap, fun q z hz => by
    rcases lk_cons hz with ⟨rfl, rfl⟩ | ⟨_, hz⟩
    · exact hV
    · exact hr'.tmp q z hz⟩
theorem e_callcw {ops : Array Oper} {Q : Exit → Act → World → Prop} {l : List Oper} {d : Nat} {f : FuncId} {x : Operand} {xs : List Operand} {ts : Array TypeId} {fs cs : List Cap} {zs ys : List IV} (ρ σ : Nat → Nat) {B0 : BL} {R0 : RL} {Y : IV → BL → RL → Prop} (hg : o.guard = none) (hd : o.dst = some d) (hn : Nat.blt d cx.n = true) (ho : o.op = .call { callee := .value x, args := xs.toArray, argTypes := ts }) (hc : callable P f = true) (hL : Lent B R ρ σ B0 R0)
    (hx : Kn T x (.clo (.func f) fs cs)) (hxs : ∀ (w : World) (D : Nat → Prop) (M : Nat → Nat) (V : Nat → Value) (a : Act), (∀ t z, lk t T = some z → VR w D M V z (a.tmps.getD t undef)) → VRs w D M V zs (xs.map a.eval)) (hys : ys.map (·.ren ρ σ) = fs.map Cap.iv ++ zs ++ cs.map Cap.iv) (hf : EG P cx.gl f ys B0 R0 Y)
    (hY : ∀ y B1 R1, Y y B1 R1 → names B1 = names B0 ∧ names R1 = names R0 ∧ binB (names B0) (names R0) B1 = true ∧ y.bin (names B0) (names R0) = true)
    (hE : ∀ y B1 R1, Y y B1 R1 → E cx ((d, y.ren ρ σ) :: killTL ((names R0).map σ) T) (renB ρ σ B1 ++ killBL ((names R0).map σ) B) (renR σ R1 ++ R) (wpList P ops Q l)) : E cx T B R (wpList P ops Q (o :: l)) := fun M V a w hr => by
  refine wpList_plain hg fun K hK => ?_
  have h1 : a.eval x = .func (.func f) (fs.map (capV M)).toArray (cs.map (capV M)).toArray := hx w (Dc cx B R M V w) M V a fun t z _ hz => hr.tmp t z hz
  have hrun : (execOp a.eval o).run P w = .ok (.enter f (fs.map (capV M) ++ xs.map a.eval ++ cs.map (capV M)).toArray) w := by
    simp [execOp, ho, resolve, h1, Deferred.ofValue, invoke, run_callable hc]
  have hv : VRs w (Dc cx B R M V w) M V (ys.map (·.ren ρ σ)) (fs.map (capV M) ++ xs.map a.eval ++ cs.map (capV M)) := by
    rw [hys]
    exact ((caps_VRs fs).append (hxs w (Dc cx B R M V w) M V a fun t z hz => hr.tmp t z hz)).append (caps_VRs cs)
  unfold Oper.wp
  rw [hrun]
  simp only [Oper.upon, hd]
  exact (calls_back hr hL hv hf hY (blt_lt hn)).mono fun e w' ⟨v, y, B1, R1, V', h1, h2, h3⟩ => by
    subst h1
    exact hK _ _ (hE y B1 R1 h2 M V' _ _ h3)
end
end Go.Proofs.YtagoikglbifhmaaGreatDoor
