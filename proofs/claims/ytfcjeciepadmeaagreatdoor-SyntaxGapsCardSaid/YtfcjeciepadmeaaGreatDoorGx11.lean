/- Part 11 of what the last text of this claim is proved by: walks over the program, and the math behind them. Conditions: as each theorem says. -/
import Derived.Test.YtfcjeciepadmeaaGreatDoorGx10
import Derived.Test.YtfcjeciepadmeaaGreatDoorProg
import Derived.Laws.BytesArg
import Derived.WalkSpells
import Derived.WalkLawsBesides
import Derived.Laws.Strings3
import Derived.Lib.BufferWrite
import Derived.Lib.UnsafeStr
import Derived.Laws.MakeOwn
import Derived.OwnWalk
import Derived.Lib.IndexMore
import Derived.Lib.IndexLaws
namespace Go.Proofs.YtfcjeciepadmeaaGreatDoor
open Go.RowKit
section
variable {P : Program} {cx : Cx} {T : TL} {B : BL} {R : RL} {M : Nat → Nat} {V : Nat → Value}
theorem Rel.own_new {a : Act} {w w' : World} (hrel : Rel cx T B R M V a w) (hb : Below w.heap.size w w') {ty k n : Nat} {v : Value} {cs : List Value} (hown : w'.ownsRow w.heap.size ty k v n cs) (r : Nat) (hT : norT r T = true) (hB : norB r B = true) : ∃ V', V' r = v ∧ Rel cx T B ((r, ⟨ty, k, n, cs.map .cell, false⟩) :: R) M V' a w' := by
  have hh := hrel.heap
  have hsz := hh.below.size
  let V' : Nat → Value := fun q => if q = r then v else V q
  have hVr : V' r = v := if_pos rfl
  have hV : ∀ q, q ≠ r → V' q = V q := fun q h => if_neg h
  have hlt : ∀ g, v.ownBlock = some g → w.heap.size ≤ g ∧ g < w'.heap.size := fun g hg => hown.lt g hg
  have hown0 : w'.ownsRow 0 ty k v n cs := by
    refine ⟨hown.1, ?_⟩
    rcases hown.2 with h | ⟨g, cap, cur, h1, _, h3⟩
    · exact .inl h
    · exact .inr ⟨g, cap, cur, h1, Nat.zero_le _, h3⟩
  have hold : ∀ q x g, lk q R = some x → x.fz = false → (V q).ownBlock = some g → g < w.heap.size := fun q x g hx hf hg => by
    have h1 := hh.row q x hx
    rw [hf] at h1
    obtain ⟨ys, a2, _⟩ := h1
    exact (a2.lt g hg).2
  have hoB : ∀ b x, lk b B = some x → M b < w.heap.size := fun b x hx => by
    obtain ⟨_, cs, h2, _⟩ := hh.box b x hx
    exact h2.lt
  have hk := hh.keeps hb
  have hD : ∀ g, Dc cx B R M V w g → Dc cx B ((r, ⟨ty, k, n, cs.map .cell, false⟩) :: R) M V' w' g := fun g hg => by
    have hgl := hh.dlt hg
    rcases hg with hg | ⟨a1, a2, a3, a4⟩
    · exact .inl hg
    · refine .inr ⟨a1, by have := hb.size; omega, a3, fun q x hx hf e => ?_⟩
      rcases lk_cons hx with ⟨rfl, _⟩ | ⟨hne, hx⟩
      · rw [hVr] at e
        have := (hlt g e).1
        omega
      · rw [hV q (Ne.symm hne)] at e
        exact a4 q x hx hf e
  refine ⟨V', hVr, hrel.size, hrel.defers, ⟨hh.below.step hb, hh.d0, hh.bl, hh.gl, fun b x hx => ?_, fun q x hx => ?_, fun q x g hx hf hg => ?_, hh.pin, hh.bb, fun b q x y g hx hy hf hg => ?_, fun q p x y g hx hy hf hf' hg hg' => ?_⟩, fun t x hx => ?_⟩
  · obtain ⟨a1, cs, a2, a3⟩ := hh.box b x hx
    have hn := List.all_eq_true.1 hB _ (lk_mem hx)
    have a4 : CFit w (Dc cx B R M V w) M V' x.cs cs := ⟨a3.1, fun j y v h1 h2 => ⟨(a3.2 j y v h1 h2).1.newV hV (List.all_eq_true.1 hn _ (List.mem_of_getElem? h1)), (a3.2 j y v h1 h2).2⟩⟩
    exact ⟨a1, cs, a2.kept hb, a4.stay hk hD⟩
  · rcases lk_cons hx with ⟨rfl, rfl⟩ | ⟨hne, hx⟩
    · rw [hVr]
      exact (⟨cs, hown0, fits_cells _ _ _⟩ : Gr _ _ _ _ _ _ _ _)
    · rw [hV q (Ne.symm hne)]
      have h1 := hh.row q x hx
      split
      · rename_i hf
        rw [if_pos hf] at h1
        exact h1.stay hk hD
      · rename_i hf
        rw [if_neg hf] at h1
        obtain ⟨xs, a2, a3⟩ := h1
        exact ⟨xs, ownsRow.stay a2 fun g hg => hb.block g (a2.lt g hg).2, a3.stay hk hD⟩
  · rcases lk_cons hx with ⟨rfl, rfl⟩ | ⟨hne, hx⟩
    · rw [hVr] at hg
      have := (hlt g hg).1
      exact .inl (by omega)
    · rw [hV q (Ne.symm hne)] at hg
      exact hh.ro q x g hx hf hg
  · rcases lk_cons hy with ⟨rfl, rfl⟩ | ⟨hne, hy⟩
    · rw [hVr] at hg
      have := (hlt g hg).1
      have := hoB b x hx
      omega
    · rw [hV q (Ne.symm hne)] at hg
      exact hh.br b q x y g hx hy hf hg
  · rcases lk_cons hx with ⟨rfl, rfl⟩ | ⟨hne, hx⟩
    · rcases lk_cons hy with ⟨rfl, rfl⟩ | ⟨hne', hy⟩
      · rfl
      · rw [hVr] at hg
        rw [hV p (Ne.symm hne')] at hg'
        have := (hlt g hg).1
        have := hold p y g hy hf' hg'
        omega
    · rcases lk_cons hy with ⟨rfl, rfl⟩ | ⟨hne', hy⟩
      · rw [hVr] at hg'
        rw [hV q (Ne.symm hne)] at hg
        have := (hlt g hg').1
        have := hold q x g hx hf hg
        omega
      · rw [hV q (Ne.symm hne)] at hg
        rw [hV p (Ne.symm hne')] at hg'
        exact hh.rr q p x y g hx hy hf hf' hg hg'
  · exact ((hrel.tmp t x hx).newV hV (List.all_eq_true.1 hT _ (lk_mem hx))).stay hk hD
theorem put_get {a : Act} {d t : Nat} {v : Value} (hd : d < a.tmps.size) : (a.put (some d) v).eval (.tmp t) = if d = t then v else a.eval (.tmp t) := getD_put a d t v hd
theorem e_call_own {ops : Array Oper} {Q : Exit → Act → World → Prop} (r : Nat) {o1 o2 o3 o4 : Oper} {l : List Oper} {d1 d2 d3 d4 : Nat} {f : FuncId} {xs : List Operand} {ts : Array TypeId} {ps : List Part} {ty k n : Nat} {cs : List Value}
    (g1 : o1.guard = none) (e1 : o1.dst = some d1) (n1 : Nat.blt d1 cx.n = true) (p1 : o1.op = .call { callee := .value (.func f), args := xs.toArray, argTypes := ts }) (hc : callable P f = true) (hx : KnA T xs ps)
    (hf : ∀ (w : World) (D : Nat → Prop) (vs : List Value), GlOK cx.gl w → PsFit w D ps vs → Calls P f vs.toArray w fun e w' => ∃ v, e = .returned (.tuple #[v, .nilIface]) ∧ Below w.heap.size w w' ∧ w'.ownsRow w.heap.size ty k v n cs)
    (g2 : o2.guard = none) (e2 : o2.dst = some d2) (n2 : Nat.blt d2 cx.n = true) (p2 : o2.op = .move (.tmp d1)) (g3 : o3.guard = none) (e3 : o3.dst = some d3) (n3 : Nat.blt d3 cx.n = true) (p3 : o3.op = .extract (.tmp d2) 0) (g4 : o4.guard = none) (e4 : o4.dst = some d4) (n4 : Nat.blt d4 cx.n = true) (p4 : o4.op = .extract (.tmp d2) 1)
    (h32 : d3 ≠ d2) (hT : norT r T = true) (hB : norB r B = true)
    (hE : E cx ((d4, .is .nilIface) :: (d3, .own r) :: (d2, .junk) :: (d1, .junk) :: T) B ((r, ⟨ty, k, n, cs.map .cell, false⟩) :: R) (wpList P ops Q l)) : E cx T B R (wpList P ops Q (o1 :: o2 :: o3 :: o4 :: l)) := fun M V a w hrel => by
  refine wpList_plain g1 fun K hK => ?_
  have hrun : (execOp a.eval o1).run P w = .ok (.enter f (xs.map a.eval).toArray) w := by
    have he : a.eval (.func f) = .func (.func f) #[] #[] := rfl
    simp [execOp, p1, resolve, he, Deferred.ofValue, invoke, run_callable hc]
  unfold Oper.wp
  rw [hrun]
  simp only [Oper.upon, e1]
  refine (hf w (Dc cx B R M V w) _ hrel.heap.glok (hx.fit fun x z _ hkx => hkx w _ M V a fun t z' _ hz => hrel.tmp t z' hz)).mono ?_
  rintro e w' ⟨v, rfl, hb, hown⟩
  refine hK _ _ ?_
  obtain ⟨V', hVr, hr0⟩ := hrel.own_new hb hown r hT hB
  have hr1 : Rel cx ((d1, .junk) :: T) B ((r, ⟨ty, k, n, cs.map .cell, false⟩) :: R) M V' (a.put (some d1) (.tuple #[v, .nilIface])) w' := hr0.put (Below.refl _ _) (blt_lt n1) trivial
  have v1 : (a.put (some d1) (.tuple #[v, .nilIface])).eval (.tmp d1) = .tuple #[v, .nilIface] := by rw [put_get (by rw [hrel.size]; exact blt_lt n1), if_pos rfl]
  generalize a.put (some d1) (.tuple #[v, .nilIface]) = a1 at hr1 v1 ⊢
  refine wpList_plain g2 fun K hK => ?_
  have hrun2 : (execOp a1.eval o2).run P w' = .ok (.value (.tuple #[v, .nilIface])) w' := by simp [execOp, p2, v1]
  unfold Oper.wp
  rw [hrun2]
  simp only [Oper.upon, e2]
  refine hK _ _ ?_
  have hr2 : Rel cx ((d2, .junk) :: (d1, .junk) :: T) B ((r, ⟨ty, k, n, cs.map .cell, false⟩) :: R) M V' (a1.put (some d2) (.tuple #[v, .nilIface])) w' := hr1.put (Below.refl _ _) (blt_lt n2) trivial
  have v2 : (a1.put (some d2) (.tuple #[v, .nilIface])).eval (.tmp d2) = .tuple #[v, .nilIface] := by rw [put_get (by rw [hr1.size]; exact blt_lt n2), if_pos rfl]
  generalize a1.put (some d2) (.tuple #[v, .nilIface]) = a2 at hr2 v2 ⊢
  refine wpList_plain g3 fun K hK => ?_
  have hrun3 : (execOp a2.eval o3).run P w' = .ok (.value v) w' := by simp [execOp, p3, v2, Instr.extract]
  unfold Oper.wp
  rw [hrun3]
  simp only [Oper.upon, e3]
  refine hK _ _ ?_
  have hr3 : Rel cx ((d3, .own r) :: (d2, .junk) :: (d1, .junk) :: T) B ((r, ⟨ty, k, n, cs.map .cell, false⟩) :: R) M V' (a2.put (some d3) v) w' := hr2.put (Below.refl _ _) (blt_lt n3) hVr.symm
  have v3 : (a2.put (some d3) v).eval (.tmp d2) = .tuple #[v, .nilIface] := by rw [put_get (by rw [hr2.size]; exact blt_lt n3), if_neg h32]; exact v2
  generalize a2.put (some d3) v = a3 at hr3 v3 ⊢
  refine wpList_plain g4 fun K hK => ?_
  have hrun4 : (execOp a3.eval o4).run P w' = .ok (.value .nilIface) w' := by simp [execOp, p4, v3, Instr.extract]
  unfold Oper.wp
  rw [hrun4]
  simp only [Oper.upon, e4]
  exact hK _ _ (hE M V' _ _ (hr3.put (Below.refl _ _) (blt_lt n4) (.cell _)))
theorem e_row_set {ops : Array Oper} {Q : Exit → Act → World → Prop} {o1 o2 o3 : Oper} {l : List Oper} {d1 d2 : Nat} {x i y : Operand} {t ft st : TypeId} {fi off r k n ix : Nat} {ty : TypeId} {ds ds' : List Dat} {kk : IntKind} {c : Value}
    (g1 : o1.guard = none) (e1 : o1.dst = some d1) (n1 : Nat.blt d1 cx.n = true) (p1 : o1.op = .indexAddr t x i) (hx : Kn T x (.own r)) (hr : lk r R = some ⟨ty, k, n, ds, false⟩) (hi : Kn T i (.is (.int kk (ix : Int)))) (hz : ix < n) (ht : P.underlying t = some (.slice (P.elem t))) (hs : sizeT P (P.elem t) = some k)
    (g2 : o2.guard = none) (e2 : o2.dst = some d2) (n2 : Nat.blt d2 cx.n = true) (p2 : o2.op = .fieldAddr ft (.tmp d1) fi) (hoff : foff P ft fi = some off) (hok : off < k)
    (g3 : o3.guard = none) (e3 : o3.dst = none) (p3 : o3.op = .store st (.tmp d2) y) (hy : Kn ((d2, .junk) :: (d1, .junk) :: T) y (.is c)) (hone : c.oneCell' = true) (hst : sizeT P st = some 1) (hds : ds.set (ix * k + off) (.cell c) = ds')
    (hE : E cx ((d2, .junk) :: (d1, .junk) :: T) B ((r, ⟨ty, k, n, ds', false⟩) :: R) (wpList P ops Q l)) : E cx T B R (wpList P ops Q (o1 :: o2 :: o3 :: l)) := fun M V a w hrel => by
  subst hds
  have hh := hrel.heap
  have hxv : a.eval x = V r := hx w (Dc cx B R M V w) M V a fun t z _ hz => hrel.tmp t z hz
  have hiv : a.eval i = .int kk (ix : Int) := (hi w (Dc cx B R M V w) M V a fun t z _ hz => hrel.tmp t z hz).is_eq
  obtain ⟨xs, hown, hfx⟩ : Gr w (Dc cx B R M V w) 0 ty k (V r) n ds := hh.row r _ hr
  obtain ⟨hxl, hv⟩ := hown
  obtain ⟨g, cap, cur, hVr, _, hg, hcap, hmax, hcs, hcx⟩ := hv.resolve_left fun h => by omega
  have hob : (V r).ownBlock = some g := by rw [hVr]; rfl
  have hzk : ix * k + off < n * k := by
    have : (ix + 1) * k ≤ n * k := Nat.mul_le_mul_right _ hz
    rw [Nat.succ_mul] at this
    omega
  have hle : n * k ≤ cap * k := Nat.mul_le_mul_right _ hcap
  have hcl : cur.toList.length = cap * k := by simpa using hcs
  refine wpList_plain g1 fun K hK => ?_
  have hadd : (⟨g, 0, none⟩ : Addr).add (ix * k) = ⟨g, ix * k, none⟩ := by unfold Addr.add; split <;> simp_all
  have h7 := run_indexAt_slice (P := P) w t ⟨g, 0, none⟩ n cap kk (ix : Int) ht
  rw [if_pos ⟨by omega, by omega⟩, run_sizeT hs, Result.andThen_ok, Int.toNat_natCast, hadd] at h7
  have hrun : (execOp a.eval o1).run P w = .ok (.value (.pointer (some ⟨g, ix * k, none⟩))) w := by
    simp [execOp, p1, hxv, hiv, hVr, h7]
  unfold Oper.wp
  rw [hrun]
  simp only [Oper.upon, e1]
  refine hK _ _ ?_
  have hr1 : Rel cx ((d1, .junk) :: T) B R M V (a.put (some d1) (.pointer (some ⟨g, ix * k, none⟩))) w := hrel.put (Below.refl _ _) (blt_lt n1) trivial
  have v1 : (a.put (some d1) (.pointer (some ⟨g, ix * k, none⟩))).eval (.tmp d1) = .pointer (some ⟨g, ix * k, none⟩) := by rw [put_get (by rw [hrel.size]; exact blt_lt n1), if_pos rfl]
  generalize a.put (some d1) (.pointer (some ⟨g, ix * k, none⟩)) = a1 at hr1 v1 ⊢
  refine wpList_plain g2 fun K hK => ?_
  have hrun2 : (execOp a1.eval o2).run P w = .ok (.value (.pointer (some ⟨g, ix * k + off, none⟩))) w := by
    simp [execOp, p2, v1, run_fieldAt hoff]
  unfold Oper.wp
  rw [hrun2]
  simp only [Oper.upon, e2]
  refine hK _ _ ?_
  have hr2 : Rel cx ((d2, .junk) :: (d1, .junk) :: T) B R M V (a1.put (some d2) (.pointer (some ⟨g, ix * k + off, none⟩))) w := hr1.put (Below.refl _ _) (blt_lt n2) trivial
  have v2 : (a1.put (some d2) (.pointer (some ⟨g, ix * k + off, none⟩))).eval (.tmp d2) = .pointer (some ⟨g, ix * k + off, none⟩) := by rw [put_get (by rw [hr1.size]; exact blt_lt n2), if_pos rfl]
  generalize a1.put (some d2) (.pointer (some ⟨g, ix * k + off, none⟩)) = a2 at hr2 v2 ⊢
  have hyv : a2.eval y = c := (hy w (Dc cx B R M V w) M V a2 fun t z _ hz => hr2.tmp t z hz).is_eq
  have hblk : Blk w g ty cur.toList := by unfold Blk; rw [hg]
  have hj : ix * k + off < cur.toList.length := by omega
  have hcell : w.cell? ⟨g, ix * k + off, none⟩ = some cur.toList[ix * k + off] := (hblk.cell _).trans (List.getElem?_eq_getElem hj)
  have hst' : (store ⟨g, ix * k + off, none⟩ c).run P w = .ok () (w.setCell ⟨g, ix * k + off, none⟩ c) := by
    rw [run_store P w _ _ _ hone, hcell]
    simp [hblk.frozen]
  have hadd0 : (⟨g, ix * k + off, none⟩ : Addr).add 0 = ⟨g, ix * k + off, none⟩ := by unfold Addr.add; split <;> simp_all
  have hccl : c.cells = #[c] := by
    revert hone
    cases c <;> intro h <;> first | rfl | cases h
  refine wpList_plain g3 fun K hK => ?_
  have hnew := hblk.set_ (ix * k + off) c
  have hoth : ∀ q, q ≠ g → (w.setCell ⟨g, ix * k + off, none⟩ c).heap[q]? = w.heap[q]? := fun q hq => Below.heap_setCell w ⟨g, ix * k + off, none⟩ _ q hq
  have hsz' : (w.setCell ⟨g, ix * k + off, none⟩ c).heap.size = w.heap.size := by simp [World.setCell]
  have hrel' : Rel cx ((d2, .junk) :: (d1, .junk) :: T) B ((r, ⟨ty, k, n, ds.set (ix * k + off) (.cell c), false⟩) :: R) M V a2 (w.setCell ⟨g, ix * k + off, none⟩ c) := by
    generalize hw' : w.setCell ⟨g, ix * k + off, none⟩ c = w' at hnew hoth hsz'
    have hos : w'.os = w.os := by rw [← hw']; rfl
    have htp : w'.tape = w.tape := by rw [← hw']; rfl
    have hou : w'.output = w.output := by rw [← hw']; rfl
    have hDne : ∀ q, Dc cx B R M V w q → q ≠ g := fun q hq e => by
      subst e
      rcases hq with hq | ⟨_, _, _, a4⟩
      · have := hh.d0 _ hq
        rcases hh.ro r _ _ hr rfl hob with h | h
        · omega
        · exact this.2 h
      · exact a4 r _ hr rfl hob
    have hkeep : Keeps (Dc cx B R M V w) w w' := fun q hq => hoth q (hDne q hq)
    have hD : ∀ q, Dc cx B R M V w q → Dc cx B ((r, ⟨ty, k, n, ds.set (ix * k + off) (.cell c), false⟩) :: R) M V w' q := fun q hq => by
      rcases hq with hq | ⟨a1, a2, a3, a4⟩
      · exact .inl hq
      · refine .inr ⟨a1, by omega, a3, fun p z hz hf => ?_⟩
        rcases lk_cons hz with ⟨rfl, rfl⟩ | ⟨_, hz⟩
        · exact a4 _ _ hr rfl
        · exact a4 p z hz hf
    refine ⟨hr2.size, hr2.defers, ⟨hh.below.turn hos htp hou (by omega) (some g) (fun q hq => by cases hq; exact hh.ro r _ _ hr rfl hob) (fun q hq hne => hoth q fun e => hne (by rw [e])), hh.d0, hh.bl, hh.gl, fun c z hz => ?_, fun q z hz => ?_, fun q z p hz hf hp => ?_, hh.pin, hh.bb, fun c q z u p hz hu hf hp => ?_, fun q p z u s hz hu hf hf' hp hs => ?_⟩, fun t z hz => (hr2.tmp t z hz).stay hkeep hD⟩
    · obtain ⟨b1, cs, b2, b3⟩ := hh.box c z hz
      refine ⟨b1, cs, ?_, b3.stay hkeep hD⟩
      unfold Blk
      rw [hoth (M c) (hh.br c r z _ g hz hr rfl hob)]
      exact b2
    · rcases lk_cons hz with ⟨rfl, rfl⟩ | ⟨hne, hz⟩
      · have hfs : Fits w' (Dc cx B ((r, ⟨ty, k, n, ds.set (ix * k + off) (.cell c), false⟩) :: R) M V w') (ds.set (ix * k + off) (.cell c)) (xs.set (ix * k + off) c) := by
          have h0 := hfx.stay hkeep hD
          refine ⟨by simp [h0.1], fun j e v he hv => ?_⟩
          rw [List.getElem?_set] at he hv
          split at he
          · rename_i hj
            rw [if_pos hj] at hv
            split at he
            · split at hv
              · cases he
                cases hv
                exact .cell _
              · cases hv
            · cases he
          · rename_i hj
            rw [if_neg hj] at hv
            exact h0.2 j e v he hv
        have : Gr w' (Dc cx B ((r, ⟨ty, k, n, ds.set (ix * k + off) (.cell c), false⟩) :: R) M V w') 0 ty k (V r) n (ds.set (ix * k + off) (.cell c)) := by
          refine ⟨xs.set (ix * k + off) c, ⟨by simp [hxl], .inr ⟨g, cap, _, hVr, Nat.zero_le _, hnew, hcap, hmax, by simpa using hcl, ?_⟩⟩, hfs⟩
          rw [← hcx]
          simp [List.take_set]
        exact this
      · have h1 := hh.row q z hz
        split
        · rename_i hf
          rw [if_pos hf] at h1
          exact h1.stay hkeep hD
        · rename_i hf
          rw [if_neg hf] at h1
          obtain ⟨ys, a2, a3⟩ := h1
          refine ⟨ys, ownsRow.stay a2 fun p hp => hoth p fun e => ?_, a3.stay hkeep hD⟩
          subst e
          exact hne (hh.rr r q _ z _ hr hz rfl (by simpa using hf) hob hp)
    · rcases lk_cons hz with ⟨rfl, rfl⟩ | ⟨_, hz⟩
      · exact hh.ro _ _ p hr rfl hp
      · exact hh.ro q z p hz hf hp
    · rcases lk_cons hu with ⟨rfl, rfl⟩ | ⟨_, hu⟩
      · exact hh.br c _ z _ p hz hr rfl hp
      · exact hh.br c q z u p hz hu hf hp
    · rcases lk_cons hz with ⟨rfl, rfl⟩ | ⟨_, hz⟩
      · rcases lk_cons hu with ⟨rfl, rfl⟩ | ⟨_, hu⟩
        · rfl
        · exact hh.rr _ p _ u s hr hu rfl hf' hp hs
      · rcases lk_cons hu with ⟨rfl, rfl⟩ | ⟨_, hu⟩
        · exact hh.rr q _ z _ s hz hr hf rfl hp hs
        · exact hh.rr q p z u s hz hu hf hf' hp hs
  have := hK _ _ (hE M V _ _ hrel')
  have hsz := run_sizeT hst (w := w)
  unfold Oper.wp execOp
  simp only [p3, v2, hyv, Instr.storeAt, Instr.sureAddr, Sem.run_bind, Sem.run_pure, Result.andThen_ok]
  simp [storeVar, hsz, hccl, storeCells, hadd0, hst', Oper.upon, e3, Act.put]
  exact this
end
end Go.Proofs.YtfcjeciepadmeaaGreatDoor
namespace Go.Proofs.YtfcjeciepadmeaaGreatDoor
open Go.RowKit
section
variable {P : Program} {cx : Cx} {T : TL} {B : BL} {R : RL} {ops : Array Oper} {Q : Exit → Act → World → Prop} {deps : List (List Nat)}
def depsOf (ops : Array Oper) : List (List Nat) := ops.toList.map fun o => (o.after.toList.filter fun e => Region.binds .any e).map (·.on)
def readyC (L : List Bool) : Nat → List (List Nat) → List Nat
  | _, [] => []
  | i, d :: ds => bif !(L.getD i true) && d.all (fun j => L.getD j false) then i :: readyC L (i + 1) ds else readyC L (i + 1) ds
theorem mem_readyC {L : List Bool} : ∀ {ds : List (List Nat)} {k i : Nat}, i ∈ readyC L k ds ↔ k ≤ i ∧ L.getD i true = false ∧ ∃ d, ds[i - k]? = some d ∧ d.all (fun j => L.getD j false) = true
  | [], k, i => by simp [readyC]
  | d :: ds, k, i => by
    have ih := mem_readyC (L := L) (ds := ds) (k := k + 1) (i := i)
    have key : i ∈ readyC L k (d :: ds) ↔ (i = k ∧ L.getD k true = false ∧ d.all (fun j => L.getD j false) = true) ∨ i ∈ readyC L (k + 1) ds := by
      rw [show readyC L k (d :: ds) = bif !(L.getD k true) && d.all (fun j => L.getD j false) then k :: readyC L (k + 1) ds else readyC L (k + 1) ds from rfl]
      cases h : (!(L.getD k true) && d.all (fun j => L.getD j false)) with
      | true =>
        simp only [Bool.and_eq_true, Bool.not_eq_true'] at h
        simp only [cond_true, List.mem_cons]
        exact ⟨fun h' => h'.imp (fun e => ⟨e, h.1, h.2⟩) id, fun h' => h'.imp (fun e => e.1) id⟩
      | false =>
        simp only [cond_false]
        refine ⟨.inr, fun h' => h'.resolve_left fun e => ?_⟩
        rw [e.2.1, e.2.2] at h
        cases h
    rw [key, ih]
    constructor
    · rintro (⟨rfl, h1, h2⟩ | ⟨h1, h2, d', h3, h4⟩)
      · exact ⟨Nat.le_refl _, h1, d, by simp, h2⟩
      · refine ⟨by omega, h2, d', ?_, h4⟩
        rw [show i - k = (i - (k + 1)) + 1 by omega, List.getElem?_cons_succ]
        exact h3
    · rintro ⟨h1, h2, d', h3, h4⟩
      by_cases e : i = k
      · subst e
        rw [Nat.sub_self, List.getElem?_cons_zero] at h3
        obtain rfl := Option.some.inj h3
        exact .inl ⟨rfl, h2, h4⟩
      · rw [show i - k = (i - (k + 1)) + 1 by omega, List.getElem?_cons_succ] at h3
        exact .inr ⟨by omega, h2, d', h3, h4⟩
theorem ready_readyC {L : List Bool} (hd : depsOf ops = deps) {i : Nat} : i ∈ Region.ready .any ops L.toArray ↔ i ∈ readyC L 0 deps := by
  have hg : ∀ (j : Nat) (b : Bool), L.toArray.getD j b = L.getD j b := fun j b => by simp [List.getD_eq_getElem?_getD]
  rw [mem_ready, mem_readyC, ← hd]
  simp only [hg, Nat.zero_le, true_and, Nat.sub_zero, depsOf, List.getElem?_map, Array.getElem?_toList]
  constructor
  · rintro ⟨h1, o, ho, h2⟩
    refine ⟨h1, _, by rw [ho]; rfl, ?_⟩
    rw [List.all_eq_true]
    intro j hj
    obtain ⟨e, he, rfl⟩ := List.mem_map.1 hj
    obtain ⟨he1, he2⟩ := List.mem_filter.1 he
    exact h2 e (Array.mem_toList_iff.1 he1) he2
  · rintro ⟨h1, d, h2, h3⟩
    cases ho : ops[i]? with
    | none => rw [ho] at h2; cases h2
    | some o =>
      rw [ho] at h2
      obtain rfl := Option.some.inj h2
      refine ⟨h1, o, rfl, fun e he hb => ?_⟩
      exact List.all_eq_true.1 h3 _ (List.mem_map.2 ⟨e, List.mem_filter.2 ⟨Array.mem_toList_iff.2 he, hb⟩, rfl⟩)
theorem e_draw_any {id : Nat} {l : List Oper} (n : Nat) (L : List Bool) (deps : List (List Nat)) (hd : depsOf l.toArray = deps) (hn : l.toArray.size = n) (hm : P.follows .mixedOrders = true) (hL : List.replicate n false = L) (h : depsOf l.toArray = deps → E cx T B R (wpAny P .any l.toArray Q n L.toArray)) : E cx T B R ((Code.region id l.toArray true).wp P Q) := fun M V a w hr => by
  have hr1 : Rel cx T B R M V a w.drew := ⟨hr.size, hr.defers, hr.heap.step (Below.refl _ _).drew, fun t x hx => (hr.tmp t x hx).stay (hr.heap.keeps (Below.refl _ _).drew) fun _ hg => hg.mono (Nat.le_refl _)⟩
  refine wp_region_any hm ?_
  rw [hn, ← List.toArray_replicate, hL]
  exact h hd M V a w.drew hr1
def AnyE (P : Program) (cx : Cx) (T : TL) (B : BL) (R : RL) (ops : Array Oper) (Q : Exit → Act → World → Prop) (fuel : Nat) (L : List Bool) : List Nat → Prop
  | [] => True
  | i :: is => E cx T B R (wpOp P ops Q i (wpAny P .any ops Q fuel (L.set i true).toArray)) ∧ AnyE P cx T B R ops Q fuel L is
theorem AnyE.get {fuel : Nat} {L : List Bool} : ∀ {is : List Nat} (_ : AnyE P cx T B R ops Q fuel L is) {i : Nat}, i ∈ is → E cx T B R (wpOp P ops Q i (wpAny P .any ops Q fuel (L.set i true).toArray))
  | j :: is, h, i, hi => by
    rcases List.mem_cons.1 hi with rfl | hi
    · exact h.1
    · exact AnyE.get h.2 hi
  | [], _, _, hi => by cases hi
theorem e_any {fuel : Nat} {L : List Bool} (hd : depsOf ops = deps) (hne : (readyC L 0 deps).isEmpty = false) (h : AnyE P cx T B R ops Q fuel L (readyC L 0 deps)) : E cx T B R (wpAny P .any ops Q (fuel + 1) L.toArray) := fun M V a w hrel => by
  refine ⟨fun e => ?_, fun i hi => ?_⟩
  · cases hl : readyC L 0 deps with
    | nil => rw [hl] at hne; cases hne
    | cons i is =>
      have : i ∈ Region.ready .any ops L.toArray := (ready_readyC hd).2 (by rw [hl]; exact List.mem_cons_self)
      rw [e] at this
      cases this
  · have := AnyE.get h ((ready_readyC hd).1 hi)
    rw [List.setIfInBounds_toArray]
    exact this M V a w hrel
theorem e_any0 {L : List Bool} (hd : depsOf ops = deps) (hr : (readyC L 0 deps).isEmpty = true) (h : E cx T B R (Q .normal)) : E cx T B R (wpAny P .any ops Q 0 L.toArray) := fun M V a w hrel => by
  refine ⟨?_, h M V a w hrel⟩
  cases hl : Region.ready .any ops L.toArray with
  | nil => rfl
  | cons i is =>
    have : i ∈ readyC L 0 deps := (ready_readyC hd).1 (by rw [hl]; exact List.mem_cons_self)
    cases hl2 : readyC L 0 deps with
    | nil => rw [hl2] at this; cases this
    | cons j js => rw [hl2] at hr; cases hr
theorem e_opi {i : Nat} {o : Oper} {K : Act → World → Prop} (ho : ops[i]? = some o) (hl : LetsOut (Exit.then K Q) → LetsOut Q) (h : E cx T B R (wpList P ops (Exit.then K Q) [o])) : E cx T B R (wpOp P ops Q i K) := fun M V a w hrel => op_of_list ho hl (h M V a w hrel)
end
end Go.Proofs.YtfcjeciepadmeaaGreatDoor
namespace Go.Proofs.YtfcjeciepadmeaaGreatDoor
open Go.RowKit
def pickT (L : List Bool) : List (Nat × Nat × IV) → TL
  | [] => []
  | (i, s, y) :: es => bif L.getD i false then (s, y) :: pickT L es else pickT L es
def pickS (L : List Bool) : List Nat → List (Nat × Nat × Bx) → BL
  | _, [] => []
  | sn, (i, s, y) :: es => bif L.getD i false && !(sn.any fun c => Nat.beq c s) then (s, y) :: pickS L (s :: sn) es else pickS L sn es
def pickB (L : List Bool) (es : List (Nat × Nat × Bx)) : BL := pickS L [] es
def dagB (deps : List (List Nat)) (L0 full : List Bool) (reach : List (List Bool)) (steps : List (List Bool × Nat)) : Bool :=
  reach.contains L0 && reach.all fun L => bif L == full then (readyC L 0 deps).isEmpty && (L.count false == 0) else
    !(readyC L 0 deps).isEmpty && (readyC L 0 deps).all fun i => steps.contains (L, i) && reach.contains (L.set i true) && ((L.set i true).count false + 1 == L.count false)
section
variable {P : Program} {cx : Cx} {T0 : TL} {B0 : BL} {R : RL} {ops : Array Oper} {Q : Exit → Act → World → Prop} {deps : List (List Nat)} {es : List (Nat × Nat × IV)} {bs : List (Nat × Nat × Bx)}
def AllSteps (P : Program) (cx : Cx) (T0 : TL) (B0 : BL) (R : RL) (ops : Array Oper) (Q : Exit → Act → World → Prop) (es : List (Nat × Nat × IV)) (bs : List (Nat × Nat × Bx)) : List (List Bool × Nat) → Prop
  | [] => True
  | (L, i) :: r => (∀ K, E cx (T0 ++ pickT (L.set i true) es) (pickB (L.set i true) bs ++ B0) R K → E cx (T0 ++ pickT L es) (pickB L bs ++ B0) R (wpOp P ops Q i K)) ∧ AllSteps P cx T0 B0 R ops Q es bs r
theorem AllSteps.get : ∀ {st : List (List Bool × Nat)} (_ : AllSteps P cx T0 B0 R ops Q es bs st) {L : List Bool} {i : Nat}, (L, i) ∈ st → ∀ K, E cx (T0 ++ pickT (L.set i true) es) (pickB (L.set i true) bs ++ B0) R K → E cx (T0 ++ pickT L es) (pickB L bs ++ B0) R (wpOp P ops Q i K)
  | (L', j) :: r, h, L, i, hm => by
    rcases List.mem_cons.1 hm with e | hm
    · injection e with e1 e2
      subst e1 e2
      exact h.1
    · exact AllSteps.get h.2 hm
  | [], _, _, _, hm => by cases hm
theorem AnyE.of {T : TL} {B : BL} {fuel : Nat} {L : List Bool} : ∀ {is : List Nat}, (∀ i ∈ is, E cx T B R (wpOp P ops Q i (wpAny P .any ops Q fuel (L.set i true).toArray))) → AnyE P cx T B R ops Q fuel L is
  | [], _ => trivial
  | i :: is, h => ⟨h i List.mem_cons_self, AnyE.of fun j hj => h j (List.mem_cons_of_mem _ hj)⟩
theorem e_states {L0 full : List Bool} {reach : List (List Bool)} {steps : List (List Bool × Nat)} (hd : depsOf ops = deps) (hB : dagB deps L0 full reach steps = true) (hs : AllSteps P cx T0 B0 R ops Q es bs steps) (hend : E cx (T0 ++ pickT full es) (pickB full bs ++ B0) R (Q .normal)) :
    ∀ (m : Nat) (L : List Bool), L.count false = m → L ∈ reach → E cx (T0 ++ pickT L es) (pickB L bs ++ B0) R (wpAny P .any ops Q m L.toArray) := by
  simp only [dagB, Bool.and_eq_true] at hB
  have hall := List.all_eq_true.1 hB.2
  intro m
  induction m with
  | zero =>
    intro L hm hL
    have h := hall L hL
    cases hf : (L == full) with
    | true =>
      rw [hf] at h
      simp only [cond_true, Bool.and_eq_true] at h
      rw [beq_iff_eq] at hf
      subst hf
      exact e_any0 hd h.1 hend
    | false =>
      rw [hf] at h
      simp only [cond_false, Bool.and_eq_true] at h
      cases hr : readyC L 0 deps with
      | nil => rw [hr] at h; exact absurd h.1 (by decide)
      | cons i is =>
        have h2 := List.all_eq_true.1 h.2 i (by rw [hr]; exact List.mem_cons_self)
        simp only [Bool.and_eq_true, beq_iff_eq] at h2
        omega
  | succ m ih =>
    intro L hm hL
    have h := hall L hL
    cases hf : (L == full) with
    | true =>
      rw [hf] at h
      simp only [cond_true, Bool.and_eq_true, beq_iff_eq] at h
      omega
    | false =>
      rw [hf] at h
      simp only [cond_false, Bool.and_eq_true, Bool.not_eq_true'] at h
      refine e_any hd h.1 (AnyE.of fun i hi => ?_)
      have h2 := List.all_eq_true.1 h.2 i hi
      simp only [Bool.and_eq_true, beq_iff_eq, List.contains_iff_mem] at h2
      exact hs.get h2.1.1 _ (ih _ (by omega) h2.1.2)
theorem e_subK {T T' : TL} {B B' : BL} {K : Act → World → Prop} (hK : E cx T' B' [] K) (hT : SubT T T') (hB : SubB B B') : E cx T B [] K := e_sub (R' := []) hT hB trivial hK
theorem e_draw_st {id : Nat} {l : List Oper} (n : Nat) (deps : List (List Nat)) (reach : List (List Bool)) (steps : List (List Bool × Nat)) (es : List (Nat × Nat × IV)) (bs : List (Nat × Nat × Bx)) {T : TL} {B : BL} (T0 : TL) (B0 : BL) (hd : depsOf l.toArray = deps) (hn : l.toArray.size = n) (hm : P.follows .mixedOrders = true) (hB : dagB deps (List.replicate n false) (List.replicate n true) reach steps = true) (hc : (List.replicate n false).count false = n)
    (h0 : ∀ K, E cx (T0 ++ pickT (List.replicate n false) es) (pickB (List.replicate n false) bs ++ B0) R K → E cx T B R K) (hs : AllSteps P cx T0 B0 R l.toArray Q es bs steps) (hend : E cx (T0 ++ pickT (List.replicate n true) es) (pickB (List.replicate n true) bs ++ B0) R (Q .normal)) : E cx T B R ((Code.region id l.toArray true).wp P Q) := by
  refine e_draw_any n _ deps hd hn hm rfl fun _ => h0 _ ?_
  refine e_states hd hB hs hend n _ hc ?_
  simp only [dagB, Bool.and_eq_true, List.contains_iff_mem] at hB
  exact hB.1
end
end Go.Proofs.YtfcjeciepadmeaaGreatDoor
namespace Go.Proofs.YtfcjeciepadmeaaGreatDoor
open Go.RowKit
theorem str_index (l : List UInt8) (i : Nat) (h : i < l.length) (u : World) : (Instr.index 9 (.string (str l)) (.int .i64 (i : Int))).run Tryz.prog u = .ok (.int .u8 (l[i].toNat : Int)) u := by
  rw [run_index_string (P := Tryz.prog) u 9 (str l) .i64 i Tryz.underlying9, dif_pos ⟨by omega, by rw [strSize]; omega⟩]
  rfl
theorem str_from (l : List UInt8) (k : Nat) (h : k ≤ l.length) (u : World) : (Instr.slice 9 (.string (str l)) (some (.int .i64 (k : Int))) none none).run Tryz.prog u = .ok (.string (str (l.drop k))) u := by
  rw [run_slice_string_from_if (P := Tryz.prog) u 9 (str l) .i64 k Tryz.underlying9, if_pos ⟨by omega, by rw [strSize]; omega⟩, str_extract, strSize, Int.toNat_natCast, List.take_of_length_le (by rw [List.length_drop]; omega)]
theorem str_upto (l : List UInt8) (k : Nat) (h : k ≤ l.length) (u : World) : (Instr.slice 9 (.string (str l)) none (some (.int .i64 (k : Int))) none).run Tryz.prog u = .ok (.string (str (l.take k))) u := by
  rw [run_slice_string_to_if (P := Tryz.prog) u 9 (str l) .i64 k Tryz.underlying9, if_pos ⟨by omega, by rw [strSize]; omega⟩, str_extract, Int.toNat_natCast, List.drop_zero, Nat.sub_zero]
theorem str_mid (l : List UInt8) (j k : Nat) (hj : j ≤ k) (h : k ≤ l.length) (u : World) : (Instr.slice 9 (.string (str l)) (some (.int .i64 (j : Int))) (some (.int .i64 (k : Int))) none).run Tryz.prog u = .ok (.string (str ((l.drop j).take (k - j)))) u := by
  rw [run_slice_string (P := Tryz.prog) u 9 (str l) .i64 .i64 j k Tryz.underlying9 (by omega) (by omega) (by rw [strSize]; omega), str_extract, Int.toNat_natCast, Int.toNat_natCast]
end Go.Proofs.YtfcjeciepadmeaaGreatDoor
namespace Go.Proofs.YtfcjeciepadmeaaGreatDoor
open Go.RowKit
theorem infoByteC : (Tryz.prog.info? 5).map (fun i => (i.zero, i.size, i.bytes)) = some (some (.int .u8 0), 1, 1) := by kernel_rfl
theorem cellByteC : Tryz.prog.cellsOf 5 = 1 := by kernel_rfl
set_option maxRecDepth 100000 in
set_option maxHeartbeats 2000000 in
theorem cloneIn_any (w : World) (l : List UInt8) (hl : l.length ≤ 140737488351232) :
    Calls Tryz.prog 107 #[.string (str l)] w fun e w' => e = .returned (.string (str l)) ∧ Below w.heap.size w w' := by
  by_cases h0 : l = []
  · subst h0
    have hz : (str []).size = 0 := rfl
    go_enter Tryz.func107, Tryz.ntmps107
    go_wp2
    go_ret
    exact ⟨rfl, Below.refl _ _⟩
  · obtain ⟨i, hi, hz0, hz1, hz2⟩ := info_parts infoByteC
    have hpos : 0 < l.length := List.length_pos_iff.2 h0
    have hz : (str l).size = l.length := strSize l
    obtain ⟨M, hM⟩ : ∃ M, M = madeCells (Value.int .u8 0).cells (((l.length : Nat) : Int).toNat * i.size) := ⟨_, rfl⟩
    have hMs : M.size = l.length := by rw [hM, size_madeCells, hz1]; simp
    have hmk : ∀ W : World, (Instr.makeSlice 100 (.int .i64 (l.length : Int)) (.int .i64 (l.length : Int))).run Tryz.prog W = .ok (.slice (some ⟨W.heap.size, 0, none⟩) l.length l.length) (W.alloc (.cells M 5)) := fun W => by
      have h := run_make (P := Tryz.prog) W 100 5 i (.int .u8 0) Tryz.underlying100 hi hz0 .i64 .i64 (l.length : Int) (l.length : Int) (by omega) (by omega) (by rw [hz2]; omega) (by omega)
      rw [← hM] at h
      simpa using h
    clear hM
    have hcp := Lib.run_copy_row_string (P := Tryz.prog) (w.alloc (.cells M 5)) 100 9 3 5 w.heap.size 0 l.length l.length (str l) M 5 Tryz.underlying100 (by rw [hi]; simp [hz1]) (heap_alloc_new w _) (by rw [hz]; exact Nat.le_refl _) (by rw [hz]; omega)
    rw [hz] at hcp
    obtain ⟨Y, hY⟩ : ∃ Y, Y = (M.toList.take 0 ++ Lib.byteCells (str l).data.toList ++ M.toList.drop (0 + l.length)).toArray := ⟨_, rfl⟩
    rw [← hY] at hcp
    have hYl : Y = (l.map bv).toArray := by
      rw [hY, List.take_zero, List.nil_append, List.drop_of_length_le (by rw [Array.length_toList]; omega), List.append_nil]
      rfl
    clear hY
    obtain ⟨V, hV⟩ : ∃ V, V = (w.alloc (.cells M 5)).setRow w.heap.size Y := ⟨_, rfl⟩
    rw [← hV] at hcp
    have hk : Blk V w.heap.size 5 (l.map bv) := by
      unfold Blk
      rw [hV, ← hYl]
      exact setRow_heap _ _ M _ 5 (0, 0) (heap_alloc_new w _)
    have hus : (Builtin.unsafeString_ #[205, 3] 9 #[.pointer (some ⟨w.heap.size, 0, none⟩), .int .i64 (l.length : Int)]).run Tryz.prog V = .ok (.string (str l)) (V.freeze ⟨w.heap.size, 0, none⟩ l.length) :=
      Lib.run_unsafeString_row V _ _ _ 5 Tryz.underlying205 cellByteC w.heap.size (l.map bv).length (by unfold World.shape?; rw [hk]; simp) l h0 (by simp) (by omega) fun j x hx => by
        rw [Addr.add_lit, Nat.zero_add, hk.cell, List.getElem?_map, hx]
        rfl
    have hb : Below w.heap.size w V := by
      rw [hV]
      exact ((Below.refl _ w).alloc (Nat.le_refl _) _).trans ⟨rfl, rfl, rfl, by simp, fun k hk => setRow_other _ _ _ _ (by omega)⟩
    have HB := Lib.hid (Lib.below_freeze hb (p := ⟨w.heap.size, 0, none⟩) (Nat.le_refl _) l.length)
    clear hb hk hV hYl hi hz0 hz1 hz2 hMs h0
    have hne : ¬ (l.length : Int) = 0 := by omega
    have hne2 : ((l.length : Int) == 0) = false := by simpa using hne
    go_enter Tryz.func107, Tryz.ntmps107
    go_wp2
    go_ret
    exact ⟨rfl, HB.out⟩
set_option maxRecDepth 100000 in
theorem clone_any (w : World) (l : List UInt8) (hl : l.length ≤ 140737488351232) :
    Calls Tryz.prog 81 #[.string (str l)] w fun e w' => e = .returned (.string (str l)) ∧ Below w.heap.size w w' := by
  go_enter Tryz.func81, Tryz.ntmps81
  go_wp2_with fail
  refine (cloneIn_any w l hl).mono ?_
  rintro e w1 ⟨rfl, hb⟩
  go_wp2_with fail
  go_ret
  exact ⟨rfl, hb⟩
end Go.Proofs.YtfcjeciepadmeaaGreatDoor
namespace Go.Proofs.YtfcjeciepadmeaaGreatDoor
open Go Go.Lib
def lxGap (b : UInt8) : Bool := b == 32 || b == 9 || b == 13 || b == 10
def lxLet (b : UInt8) : Bool := decide (97 ≤ b.toNat ∧ b.toNat ≤ 122) || decide (65 ≤ b.toNat ∧ b.toNat ≤ 90) || b == 95
def lxFig (b : UInt8) : Bool := decide (48 ≤ b.toNat ∧ b.toNat ≤ 57)
def lxIn (b : UInt8) : Bool := lxLet b || lxFig b
def lxQuote (b : UInt8) : Bool := b == 34 || b == 39
def signs : List UInt8 := [123, 125, 91, 93, 60, 62, 40, 41, 59, 61, 44, 46, 45]
def lxSign (b : UInt8) : Bool := signs.contains b
def ldig (b : UInt8) : Nat :=
  if 48 ≤ b.toNat ∧ b.toNat ≤ 57 then b.toNat - 48 else if 97 ≤ b.toNat ∧ b.toNat ≤ 102 then b.toNat - 97 + 10
  else if 65 ≤ b.toNat ∧ b.toNat ≤ 70 then b.toNat - 65 + 10 else 16
def lspan (p : UInt8 → Bool) : List UInt8 → Nat
  | [] => 0
  | b :: l => if p b then lspan p l + 1 else 0
theorem lspan_le (p : UInt8 → Bool) : ∀ l, lspan p l ≤ l.length
  | [] => Nat.le_refl _
  | b :: l => by
    have := lspan_le p l
    unfold lspan
    split <;> simp <;> omega
theorem lspan_eq {p : UInt8 → Bool} : ∀ {l : List UInt8} {i : Nat}, i ≤ l.length → (∀ j b, j < i → l[j]? = some b → p b = true) → (∀ b, l[i]? = some b → p b = false) → lspan p l = i
  | [], i, hi, _, _ => by
    have : i = 0 := by simpa using hi
    subst this; rfl
  | b :: l, 0, _, _, hs => by
    have := hs b (by simp)
    simp [lspan, this]
  | b :: l, i + 1, hi, hj, hs => by
    have h0 := hj 0 b (by omega) (by simp)
    have := lspan_eq (p := p) (l := l) (i := i) (by simpa using hi) (fun j c h hc => hj (j + 1) c (by omega) (by simpa using hc)) (fun c hc => hs c (by simpa using hc))
    simp [lspan, h0, this]
theorem lspan_pos {p : UInt8 → Bool} {b : UInt8} {l : List UInt8} (h : p b = true) : lspan p (b :: l) = lspan p l + 1 := by simp [lspan, h]
def lval (base : Nat) (ds : List UInt8) : Nat := ds.foldl (fun n b => n * base + ldig b) 0
def lnb (base : Nat) (ds : List UInt8) : Nat × Nat :=
  if ds = [] ∨ (ds.all fun b => decide (ldig b < base)) = false then (0, 9) else if 2147483647 < lval base ds then (0, 1) else (lval base ds, 0)
def lnum (l : List UInt8) : Nat × Nat :=
  if l.take 2 = [48, 120] ∨ l.take 2 = [48, 88] then lnb 16 (l.drop 2) else if l.head? = some 48 then lnb 8 l else lnb 10 l
def lclosed (k : Nat) (e l : List UInt8) : Nat × Nat := if index (l.drop k) e < 0 then (0, 9) else (k + (index (l.drop k) e).toNat + e.length, 0)
def noLF (b : UInt8) : Bool := b != 10
def lcut (l : List UInt8) : Nat × Nat × Nat :=
  if lxGap (l.headD 0) then (0, lspan lxGap l, 0)
  else if l.take 2 = [47, 47] then (0, lspan noLF l, 0)
  else if l.take 2 = [47, 42] then (0, lclosed 2 [42, 47] l)
  else if lxLet (l.headD 0) then (1, lspan lxIn l, 0)
  else if lxFig (l.headD 0) then (2, lspan lxIn l, 0)
  else if lxQuote (l.headD 0) then (3, lclosed 1 [l.headD 0] l)
  else if lxSign (l.headD 0) then (4, 1, 0)
  else (0, 0, 9)
structure Tok where
  k : Nat
  t : List UInt8
  n : Nat
deriving DecidableEq
def ltoken (k : Nat) (p : List UInt8) : Tok × Nat :=
  if k = 0 then (⟨0, [], 0⟩, 0)
  else if k = 1 then (if 40 < p.length then (⟨0, [], 0⟩, 3) else (⟨1, p, 0⟩, 0))
  else if k = 2 then (if (lnum p).2 = 0 then (⟨2, p, (lnum p).1⟩, 0) else (⟨0, [], 0⟩, (lnum p).2))
  else if k = 3 then (if (92 : UInt8) ∈ (p.drop 1).take (p.length - 2) ∨ (10 : UInt8) ∈ (p.drop 1).take (p.length - 2) then (⟨0, [], 0⟩, 9) else (⟨3, (p.drop 1).take (p.length - 2), 0⟩, 0))
  else (⟨k, p, 0⟩, 0)
def lfirst (l : List UInt8) : Tok × Nat × Nat :=
  if (lcut l).2.2 ≠ 0 then (⟨0, [], 0⟩, 0, (lcut l).2.2)
  else if (ltoken (lcut l).1 (l.take (lcut l).2.1)).2 ≠ 0 then (⟨0, [], 0⟩, 0, (ltoken (lcut l).1 (l.take (lcut l).2.1)).2)
  else ((ltoken (lcut l).1 (l.take (lcut l).2.1)).1, (lcut l).2.1, 0)
theorem lclosed_size {k : Nat} {e l : List UInt8} (hk : k ≤ l.length) (h : (lclosed k e l).2 = 0) : k + e.length ≤ (lclosed k e l).1 ∧ (lclosed k e l).1 ≤ l.length := by
  unfold lclosed at h ⊢
  split
  · rename_i h0; rw [if_pos h0] at h; cases h
  · rename_i h0
    have := index_room (l.drop k) e (by omega)
    rw [List.length_drop] at this
    simp only
    omega
theorem lspan_first {p : UInt8 → Bool} {l : List UInt8} (h0 : 0 < l.length) (h : p (l.headD 0) = true) : 0 < lspan p l := by
  cases l with
  | nil => simp at h0
  | cons b l => rw [lspan_pos (by simpa using h)]; omega
theorem lcut_size {l : List UInt8} (h0 : 0 < l.length) (h : (lcut l).2.2 = 0) : 0 < (lcut l).2.1 ∧ (lcut l).2.1 ≤ l.length := by
  unfold lcut at h ⊢
  split
  · rename_i h1
    exact ⟨lspan_first h0 h1, lspan_le _ _⟩
  rename_i h1
  rw [if_neg h1] at h
  split
  · rename_i h2
    refine ⟨?_, lspan_le _ _⟩
    refine lspan_first h0 ?_
    match l, h2 with
    | b :: c :: l, h2 => simp at h2; simp [h2.1, noLF]
    | [b], h2 => simp at h2
  rename_i h2
  rw [if_neg h2] at h
  split
  · rename_i h3
    rw [if_pos h3] at h
    have hk : 2 ≤ l.length := by
      have := congrArg List.length h3
      rw [List.length_take] at this
      simp at this
      omega
    have := lclosed_size (k := 2) hk h
    simp only at this ⊢
    omega
  rename_i h3
  rw [if_neg h3] at h
  split
  · rename_i h4
    exact ⟨lspan_first h0 (by simp only [lxIn, h4, Bool.true_or]), lspan_le _ _⟩
  rename_i h4
  rw [if_neg h4] at h
  split
  · rename_i h5
    exact ⟨lspan_first h0 (by simp only [lxIn, h5, Bool.or_true]), lspan_le _ _⟩
  rename_i h5
  rw [if_neg h5] at h
  split
  · rename_i h6
    rw [if_pos h6] at h
    have := lclosed_size (k := 1) (by omega) h
    simp only at this ⊢
    omega
  rename_i h6
  rw [if_neg h6] at h
  split
  · exact ⟨by simp, h0⟩
  · rename_i h7
    rw [if_neg h7] at h
    simp at h
theorem lfirst_size {l : List UInt8} (h0 : 0 < l.length) (h : (lfirst l).2.2 = 0) : 0 < (lfirst l).2.1 ∧ (lfirst l).2.1 ≤ l.length ∧ (lcut l).2.2 = 0 ∧ (lfirst l).2.1 = (lcut l).2.1 ∧ (ltoken (lcut l).1 (l.take (lcut l).2.1)).2 = 0 ∧ (lfirst l).1 = (ltoken (lcut l).1 (l.take (lcut l).2.1)).1 := by
  unfold lfirst at h ⊢
  split
  · rename_i h1; rw [if_pos h1] at h; exact absurd h h1
  rename_i h1
  rw [if_neg h1] at h
  split
  · rename_i h2; rw [if_pos h2] at h; exact absurd h h2
  rename_i h2
  have := lcut_size h0 (by simpa using h1)
  exact ⟨this.1, this.2, by simpa using h1, rfl, by simpa using h2, rfl⟩
def lplace (p : Nat × Nat) (l : List UInt8) : Nat × Nat := l.foldl (fun p b => if b = 10 then (p.1 + 1, 1) else (p.1, p.2 + 1)) p
theorem lplace_append (p : Nat × Nat) (l m : List UInt8) : lplace p (l ++ m) = lplace (lplace p l) m := by simp [lplace]
theorem lplace_snoc (p : Nat × Nat) (l : List UInt8) (b : UInt8) : lplace p (l ++ [b]) = if b = 10 then ((lplace p l).1 + 1, 1) else ((lplace p l).1, (lplace p l).2 + 1) := by
  rw [lplace_append]; simp [lplace]
theorem lplace_le : ∀ (l : List UInt8) (p : Nat × Nat), (lplace p l).1 ≤ p.1 + l.length ∧ (lplace p l).2 ≤ p.2 + 1 + l.length
  | [], p => by simp only [lplace, List.foldl_nil, List.length_nil]; omega
  | b :: l, p => by
    have e : lplace p (b :: l) = lplace (if b = 10 then (p.1 + 1, 1) else (p.1, p.2 + 1)) l := rfl
    rw [e]
    split
    · have := lplace_le l (p.1 + 1, 1)
      simp only [List.length_cons] at this ⊢
      omega
    · have := lplace_le l (p.1, p.2 + 1)
      simp only [List.length_cons] at this ⊢
      omega
def placeAt (l : List UInt8) (at' : Nat) : Nat × Nat := lplace (1, 1) (l.take at')
theorem placeAt_more (l : List UInt8) (i n : Nat) : placeAt l (i + n) = lplace (placeAt l i) ((l.drop i).take n) := by
  unfold placeAt
  rw [← lplace_append, List.take_add]
theorem placeAt_le (l : List UInt8) (i : Nat) : (placeAt l i).1 ≤ 1 + l.length ∧ (placeAt l i).2 ≤ 2 + l.length := by
  have := lplace_le (l.take i) (1, 1)
  have h : (l.take i).length ≤ l.length := by rw [List.length_take]; omega
  unfold placeAt
  simp only at this ⊢
  omega
inductive Lex (l : List UInt8) : Nat → List (Tok × Nat) → Nat → Nat → Prop
  | done {i : Nat} : i = l.length → Lex l i [] 0 0
  | bad {i : Nat} : i < l.length → (lfirst (l.drop i)).2.2 ≠ 0 → Lex l i [] (lfirst (l.drop i)).2.2 i
  | gap {i : Nat} {ts e ea} : i < l.length → (lfirst (l.drop i)).2.2 = 0 → (lcut (l.drop i)).1 = 0 → Lex l (i + (lfirst (l.drop i)).2.1) ts e ea → Lex l i ts e ea
  | tok {i : Nat} {ts e ea} : i < l.length → (lfirst (l.drop i)).2.2 = 0 → (lcut (l.drop i)).1 ≠ 0 → Lex l (i + (lfirst (l.drop i)).2.1) ts e ea → Lex l i (((lfirst (l.drop i)).1, i) :: ts) e ea
theorem lex_total (l : List UInt8) : ∀ (n i : Nat), i + n = l.length → ∃ ts e ea, Lex l i ts e ea := by
  intro n
  induction n using Nat.strongRecOn with
  | ind n ih =>
    intro i hi
    by_cases h0 : i = l.length
    · exact ⟨_, _, _, .done h0⟩
    have hlt : i < l.length := by omega
    by_cases hb : (lfirst (l.drop i)).2.2 = 0
    · have hs := lfirst_size (l := l.drop i) (by rw [List.length_drop]; omega) hb
      rw [List.length_drop] at hs
      obtain ⟨ts, e, ea, hL⟩ := ih (n - (lfirst (l.drop i)).2.1) (by omega) (i + (lfirst (l.drop i)).2.1) (by omega)
      by_cases hk : (lcut (l.drop i)).1 = 0
      · exact ⟨_, _, _, .gap hlt hb hk hL⟩
      · exact ⟨_, _, _, .tok hlt hb hk hL⟩
    · exact ⟨_, _, _, .bad hlt hb⟩
end Go.Proofs.YtfcjeciepadmeaaGreatDoor
