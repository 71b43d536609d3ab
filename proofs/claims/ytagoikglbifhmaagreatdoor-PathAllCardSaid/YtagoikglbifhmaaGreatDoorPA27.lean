/- Part 27 of what the last text of this claim is proved by: walks over the program, and the math behind them. Conditions: as each theorem says. -/
import Derived.Test.YtagoikglbifhmaaGreatDoorPA26
namespace Go.Proofs.YtagoikglbifhmaaGreatDoor
open Go.RowKit
section
variable {P : Program} {cx : Cx} {T : TL} {B : BL} {R : RL} {o : Oper} {ops : Array Oper} {Q : Exit → Act → World → Prop} {l : List Oper}
theorem run_equalIn_slnil (m : Nat) (w : World) {t e : TypeId} (h : P.underlying t = some (.slice e)) (p : Option Addr) (n c : Nat) : (Op.equalIn (m + 1) t (.slice p n c) (.slice none 0 0)).run P w = .ok p.isNone w := by
  rw [Op.equalIn, Sem.run_bind, run_underlying h]
  cases p <;> rfl
theorem run_equal_slnil (w : World) {t e : TypeId} (h : P.underlying t = some (.slice e)) (p : Option Addr) (n c : Nat) : (Op.equal t (.slice p n c) (.slice none 0 0)).run P w = .ok p.isNone w := run_equalIn_slnil 9999 w h p n c
theorem binv_slnil {t e : TypeId} (p : Option Addr) (n c : Nat) (h : P.underlying t = some (.slice e)) : BinV P .eql t (.slice p n c) (.slice none 0 0) (.bool p.isNone) := fun x y w => by
  rw [Sem.run_bind, show (eqGuard .eql t x y (.slice p n c) (.slice none 0 0)).run P w = .ok () w by simp [eqGuard], Result.andThen_ok]
  simp [binOp, run_equal_slnil w h]
theorem e_isnil {d : Nat} {x : Operand} {t t' e : TypeId} {k n : Nat} {ds : List Dat} (hg : o.guard = none) (hd : o.dst = some d) (hn : Nat.blt d cx.n = true) (ho : o.op = .binOp .eql t x (.const (.slice none 0 0)) t') (hx : Kn T x (.part (.one (.row k n ds)))) (ht : P.underlying t = some (.slice e))
    (h1 : n = 0 → E cx ((d, .is (.bool true)) :: T) B R (wpList P ops Q l)) (h0 : E cx ((d, .is (.bool false)) :: T) B R (wpList P ops Q l)) : E cx T B R (wpList P ops Q (o :: l)) := fun M V a w hr => by
  have hv : Lies w (Dc cx B R M V w) (.row k n ds) (a.eval x) := hx w (Dc cx B R M V w) M V a fun t z _ hz => hr.tmp t z hz
  obtain ⟨p, m, c, e, hp⟩ : ∃ p m c, a.eval x = .slice p m c ∧ (p.isNone = true → n = 0) := by
    generalize a.eval x = u at hv
    cases hv with
    | none k p c => exact ⟨p, 0, c, rfl, fun _ => rfl⟩
    | row k n' b off c es X hn0 _ hl hDb hc hX => exact ⟨_, _, _, rfl, fun h => by cases h⟩
  have hb := binv_slnil (P := P) (t := t) p m c ht x (.const (.slice none 0 0)) w
  have hrun : (execOp a.eval o).run P w = .ok (.value (.bool p.isNone)) w := by
    have e2 : a.eval (.const (.slice none 0 0)) = .slice none 0 0 := rfl
    unfold execOp
    simp only [ho, e, e2]
    rw [Sem.run_bind, hb]
    rfl
  refine wpList_plain hg fun K hK => ?_
  unfold Oper.wp
  rw [hrun]
  simp only [Oper.upon, hd]
  refine hK _ _ ?_
  have hr1 : Rel cx ((d, .is (.bool p.isNone)) :: T) B R M V (a.put (some d) (.bool p.isNone)) w := hr.put (Below.refl _ _) (blt_lt hn) (.cell _)
  cases hq : p.isNone with
  | true => rw [hq] at hr1; exact h1 (hp hq) M V _ _ hr1
  | false => rw [hq] at hr1; exact h0 M V _ _ hr1
theorem e_unpin1 {K : Act → World → Prop} {t r : Nat} {x : Rw} (ht : lk t T = some (.own r)) (hr0 : lk r R = some x) (hf : x.fz = false) (h : ∀ v0 : Value, v0.oneCell' = true → E cx ((t, atv r v0) :: T) B R K) : E cx T B R K := fun M V a w hr => h (V r) (by
  have h1 := hr.heap.row r x hr0
  rw [hf] at h1
  obtain ⟨xs, h2, _⟩ : Gx _ _ _ _ _ _ _ _ := h1
  rcases h2 with ⟨_, _, ⟨h3, _⟩ | ⟨g, cap, cur, h3, _⟩⟩ | ⟨_, g, es, c, h3, _⟩ <;> rw [h3] <;> rfl) M V a w ⟨hr.size, hr.defers, hr.heap, fun q z hz => by
  rcases lk_cons hz with ⟨rfl, rfl⟩ | ⟨_, hz⟩
  · exact ⟨hr.tmp t _ ht, rfl⟩
  · exact hr.tmp q z hz⟩
theorem e_req {K : Act → World → Prop} {r ty k n n' : Nat} {ds ds' : List Dat} {f : Bool} (hn : n = n') (hd : ds = ds') (h : E cx T B ((r, ⟨ty, k, n', ds', f⟩) :: R) K) : E cx T B ((r, ⟨ty, k, n, ds, f⟩) :: R) K := by
  subst hn
  subst hd
  exact h
theorem upv_one {v : Value} {n m : Nat} (h : Room v n m) : (upv v m).oneCell' = true := by
  obtain ⟨g, c, rfl, _⟩ := h
  rfl
end
def ddR : List Nat → RL → RL
  | _, [] => []
  | sn, (j, x) :: l => bif sn.any fun c => Nat.beq c j then ddR sn l else (j, x) :: ddR (j :: sn) l
theorem lk_ddR : ∀ (l : RL) (sn : List Nat) (b : Nat), b ∉ sn → lk b (ddR sn l) = lk b l
  | [], _, _, _ => rfl
  | (j, x) :: l, sn, b, hb => by
    unfold ddR
    cases h : sn.any fun c => Nat.beq c j with
    | true =>
      obtain ⟨c, hc, e⟩ := List.any_eq_true.1 h
      have e' : c = j := Nat.eq_of_beq_eq_true e
      have hj : j ≠ b := fun e2 => hb (by rw [← e2, ← e']; exact hc)
      rw [cond_true, lk_ddR l sn b hb, lk_cons_ne _ _ hj]
    | false =>
      rw [cond_false]
      by_cases e : j = b
      · subst e
        rw [lk_cons_eq, lk_cons_eq]
      · rw [lk_cons_ne _ _ e, lk_cons_ne _ _ e]
        exact lk_ddR l (j :: sn) b (by
          rintro (_ | ⟨_, h⟩)
          · exact e rfl
          · exact hb h)
section
variable {cx : Cx} {T : TL} {B : BL} {R R' : RL} {K : Act → World → Prop}
theorem Dc.lkR (h : ∀ b, lk b R = lk b R') (M : Nat → Nat) (V : Nat → Value) (w : World) : Dc cx B R M V w = Dc cx B R' M V w := by
  funext g
  unfold Dc
  simp only [h]
theorem e_lkR (h : ∀ b, lk b R = lk b R') (hE : E cx T B R' K) : E cx T B R K := fun M V a w hr => by
  have hD := Dc.lkR (cx := cx) (B := B) h M V w
  have hh := hr.heap
  refine hE M V a w ⟨hr.size, hr.defers, ⟨hh.below, hh.d0, hh.bl, hh.gl, fun b x hx => ?_, fun r x hx => ?_, fun r x g hx => hh.ro r x g (by rw [h]; exact hx), hh.pin, hh.bb, fun b r x y g hx hy => hh.br b r x y g hx (by rw [h]; exact hy), fun r q x y g hx hy => hh.rr r q x y g (by rw [h]; exact hx) (by rw [h]; exact hy)⟩, fun t x hx => ?_⟩
  · have := hh.box b x hx
    rwa [hD] at this
  · have := hh.row r x (by rw [h]; exact hx)
    rwa [hD] at this
  · have := hr.tmp t x hx
    rwa [hD] at this
theorem e_ddR (hE : E cx T B R K) : E cx T B (ddR [] R) K := e_lkR (fun b => lk_ddR R [] b (by simp)) hE
end
end Go.Proofs.YtagoikglbifhmaaGreatDoor
