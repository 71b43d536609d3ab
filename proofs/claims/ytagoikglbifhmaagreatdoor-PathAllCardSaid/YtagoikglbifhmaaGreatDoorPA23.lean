/- Part 23 of what the last text of this claim is proved by: walks over the program, and the math behind them. Conditions: as each theorem says. -/
import Derived.Test.YtagoikglbifhmaaGreatDoorPA22
import Derived.Test.YtagoikglbifhmaaGreatDoorProg
namespace Go.Proofs.YtagoikglbifhmaaGreatDoor
open Go.RowKit
theorem short_leaf (k : Int) (n : Nat) (t : List UInt8) : Short (.mk k n t [] [] [] []) := by
  show vnodes _ ≤ 1000000
  rw [vnodes_eq]
  simp [Vl.list, Vl.fields, Vl.pairs, lnodes, fnodes, pnodes]
theorem keyOf_ok (l : List UInt8) : (keyOf l).num < 18446744073709551616 ∧ Short (keyOf l) := by
  unfold keyOf
  split
  · exact ⟨(by show 0 < _; omega), short_leaf _ _ _⟩
  · split
    · rename_i u h
      have := Lib.parseUintB_le h
      exact ⟨by show u < _; omega, short_leaf _ _ _⟩
    · exact ⟨by decide, short_leaf _ _ _⟩
theorem fst1_key (c : UInt8) (l : List UInt8) : (fst1 c l).1.key.num < 18446744073709551616 ∧ Short (fst1 c l).1.key := by
  have h0 : (vnone).num < 18446744073709551616 ∧ Short vnone := ⟨by decide, short_leaf _ _ _⟩
  unfold fst1
  split
  · exact h0
  split
  · exact h0
  split
  · exact h0
  split
  · exact keyOf_ok _
  split
  · show (listed _).key.num < _ ∧ Short (listed _).key
    unfold listed
    split <;> exact h0
  · exact h0
theorem psteps_keys : ∀ (l : List UInt8), ∀ s ∈ psteps l, s.key.num < 18446744073709551616 ∧ Short s.key
  | [], s, h => by rw [psteps] at h; cases h
  | c :: l, s, h => by
    have hle := fst1_le c l
    rw [psteps_cons] at h
    rcases List.mem_cons.1 h with rfl | h
    · exact fst1_key c l
    · exact psteps_keys (fst1 c l).2 s h
termination_by l => l.length
decreasing_by
  have := fst1_le c l
  simp only [List.length_cons]
  omega
theorem psteps_ok {s : List UInt8} (h : s.length ≤ 100000) : PathOk (psteps s) :=
  ⟨by have := psteps_len s; omega, fun x hx => (psteps_keys s x hx).1, fun x hx => (psteps_keys s x hx).2⟩
structure PG (gls : List (Nat × List Value)) (eF : Value) : Prop where
  err : ErrG gls
  form : (0, [eF]) ∈ gls
  ifc : ∃ t p, eF = .iface t p
def PY (eF : Value) (s : List UInt8) : IV := if ptext (psteps s) = s then .tup [stD (psteps s), .one (.cell .nilIface)] else .tup [stD [], .one (.cell eF)]
theorem flats_one (l : List St) (x : St) : (l ++ [x]).flatMap stDats = l.flatMap stDats ++ sd x := by rw [List.flatMap_append, ← stDats_sd]; simp
set_option maxRecDepth 100000 in
set_option maxHeartbeats 1000000 in
theorem parse_q {gls : List (Nat × List Value)} {eF : Value} (hg : PG gls eF) (s : List UInt8) (hs : s.length ≤ 100000) : EFq Tryz.prog Tb gls 22 [sP s] (PY eF s) := by
  have hok := psteps_ok hs
  refine efq_enter 25 Tryz.func22 rfl rfl rfl fun w D hq => ?_
  try refine e_fl ?_
  refine e_plain (w_as rfl rfl rfl rfl rfl (w_as rfl rfl rfl rfl rfl .nil)) ?_
  try refine e_fl ?_
  refine e_plain (w_as rfl rfl rfl rfl rfl .nil) ?_
  try refine e_fl ?_
  refine e_plain (w_mv rfl rfl rfl rfl rfl (w_as rfl rfl rfl rfl rfl .nil)) ?_
  try refine e_fl ?_
  refine e_row_slot 4 100 62 10 rfl rfl rfl ?_
  refine e_loop (ι := { i : List St × List UInt8 // psteps s = i.1 ++ psteps i.2 ∧ i.2.length ≤ s.length ∧ i.1.length ≤ s.length - i.2.length })
    (fun i => [(0, .part (sP s)), (4, .own 100), (5, .part (sP i.1.2))])
    (fun _ => []) (fun i => [(100, ⟨62, 10, i.1.1.length, i.1.1.flatMap stDats, false⟩)]) (fun i => i.1.2.length) ⟨([], s), rfl, Nat.le_refl _, by simp⟩
    (fun K => e_sub ⟨s_t, s_t, s_t, trivial⟩ trivial ⟨rfl, trivial⟩) ?_
  rintro ⟨⟨m, l⟩, hw, hl, hm⟩
  dsimp only at hw hl hm ⊢
  try refine e_fl ?_
  refine e_plain (w_mv rfl rfl rfl rfl rfl (w_op rfl rfl rfl (s_bin rfl (kn rfl) (kn rfl) (v_sneq (b := []))) .nil)) ?_
  try refine e_fl ?_
  refine e_cond rfl (fun h => ?_) (fun h => ?_)
  · obtain ⟨c, r, rfl⟩ : ∃ c r, l = c :: r := by
      cases l with
      | nil => cases h
      | cons c r => exact ⟨c, r, rfl⟩
    have hlr : (c :: r).length = r.length + 1 := rfl
    have hf := fst1_le c r
    try refine e_fl ?_
    refine e_list ?_
    refine e_alloc 6 [.is (.int .i64 0), .is (.int .i64 0), .is (.int .i64 0), .is (.int .i64 0), .is (.int .u64 0), .is (.string ⟨#[]⟩), .is (.slice none 0 0), .is (.string ⟨#[]⟩), .is (.slice none 0 0), .is (.slice none 0 0)] rfl rfl rfl rfl zr_62 (fun w D M V => ⟨rfl, fun j x v h1 h2 => cfit_is _ h1 h2 rfl⟩) rfl rfl rfl rfl ?_
    refine e_nil ?_
    try refine e_fl ?_
    refine e_list ?_
    refine l_mv ?_
    refine l_op (s_call rfl (by kernel_rfl) (first_ef hg.err c r (by omega)) ⟨(kn rfl), trivial⟩) ?_
    refine l_mv ?_
    refine l_ex ?_
    refine l_ex ?_
    refine e_storew rfl rfl rfl (kn rfl) rfl (kn rfl) rfl rfl sz_62 ?_
    refine l_as ?_
    refine e_nil ?_
    try refine e_fl ?_
    refine e_list ?_
    refine l_mv ?_
    refine l_op (s_loadn_box (ds := [_, _, _, _, _, _, _, _, _, _]) 10 rfl (kn rfl) rfl rfl agg_62 sz_62 rfl) ?_
    refine l_op (s_buildSlice (ds := [_, _, _, _, _, _, _, _, _, _]) [(0, _)] rfl ⟨rfl, (kn rfl), trivial⟩ rfl sl_29 sz_62 zr_62 (fun w D => .cons (.cell _) (.cons (.cell _) (.cons (.cell _) (.cons (.cell _) (.cons (.cell _) (.cons (.cell _) (.cons (.cell _) (.cons (.cell _) (.cons (.cell _) (.cons (.cell _) (.nil _ _))))))))))) rfl rfl rfl rfl rfl) ?_
    refine e_append rfl rfl rfl rfl (kn rfl) rfl (kn rfl) sl_29 ap_29 rfl rfl (by first | omega | (dsimp only; omega) | omega) (by first | omega | (dsimp only; omega) | omega) ?_
    refine l_as ?_
    refine e_nil ?_
    try refine e_fl ?_
    refine e_again ⟨(m ++ [(fst1 c r).1], (fst1 c r).2), by rw [hw, psteps_cons]; simp, by dsimp only; omega, by dsimp only; rw [List.length_append]; simp only [List.length_cons, List.length_nil]; omega⟩ (by dsimp only; omega) (fun K => e_sub ⟨s_t, s_t, s_t, trivial⟩ trivial ⟨rowEq rfl (by simp) (by rw [flats_one]; rfl), trivial⟩)
  obtain rfl : l = [] := by
    cases l with
    | nil => rfl
    | cons c r => exact absurd h (by simp)
  have e : psteps s = m := by rw [hw, psteps, List.append_nil]
  have hok' : PathOk m := e ▸ hok
  try refine e_fl ?_
  refine e_freeze_slot 4 100 rfl rfl rfl ?_
  refine e_plain (w_mv rfl rfl rfl rfl rfl (w_op rfl rfl rfl (s_callw rfl (by kernel_rfl) (efq_w tb_stab hq (ptext_q _ m hok') (fun _ h => h) (fun _ h => h)) ⟨(kn rfl), trivial⟩) (w_mv rfl rfl rfl rfl rfl (w_op rfl rfl rfl (s_bin rfl (kn rfl) (kn rfl) (v_sneq)) .nil)))) ?_
  try refine e_fl ?_
  refine e_cond rfl (fun h => ?_) (fun h => ?_)
  · have hn : ¬ ptext (psteps s) = s := by rw [e]; simpa using h
    try refine e_fl ?_
    refine e_draw mixed (by kernel_rfl) (w_op rfl rfl rfl (s_load_gl rfl (kn rfl) hg.form one_56) (w_as rfl rfl rfl rfl rfl (w_as rfl rfl rfl rfl rfl .nil))) ?_
    try refine e_fl ?_
    exact e_return rfl rfl (.tmp (kn rfl) (.tmp (kn rfl) (.nil))) ((by rw [PY, if_neg hn]; exact Imp.tup ⟨DImp.nil 10, DImp.refl _, trivial⟩)) rfl
  · have hy : ptext (psteps s) = s := by rw [e]; simpa using h
    try refine e_fl ?_
    refine e_plain (w_mv rfl rfl rfl rfl rfl (w_as rfl rfl rfl rfl rfl (w_as rfl rfl rfl rfl rfl .nil))) ?_
    try refine e_fl ?_
    exact e_return rfl rfl (.tmp (kn rfl) (.tmp (kn rfl) (.nil))) (Imp.of_eq (by rw [PY, if_pos hy, e]; rfl)) rfl
def exP : List St := [⟨1, 1, 0, vnone⟩, ⟨2, 0, 0, ktxt [97]⟩, ⟨3, 2, 0, vnone⟩]
def exT : List UInt8 := [46, 49, 123, 39, 54, 49, 39, 125, 91, 50, 93]
theorem itoa_1 : Lib.itoa 1 = [49] := by rw [itoa_nat (by decide), show (1 : Int).toNat = 1 from rfl, Lib.decDigits, dif_pos (by decide)]; rfl
theorem itoa_2 : Lib.itoa 2 = [50] := by rw [itoa_nat (by decide), show (2 : Int).toNat = 2 from rfl, Lib.decDigits, dif_pos (by decide)]; rfl
theorem exP_text : exP.flatMap stT = exT := by
  show (46 :: Lib.itoa 1) ++ ((123 :: (keyT (ktxt [97]) ++ [125])) ++ ((91 :: (Lib.itoa 2 ++ [93])) ++ [])) = exT
  rw [itoa_1, itoa_2]
  decide +kernel
theorem vright_none : vright vnone = true := by rw [vright_eq]; decide +kernel
theorem vright_txt (l : List UInt8) : vright (ktxt l) = true := by
  rw [vright_eq]
  show (vplain (ktxt l) && true && true && true) = true
  simp [vplain, ktxt, Vl.kind, Vl.num, Vl.text, Vl.fields, Vl.rest, Vl.list, Vl.pairs]
theorem exP_right : exP.all srt = true := by
  have h1 := vright_none
  have h2 : vright (.mk 2 0 [97] [] [] [] []) = true := vright_txt [97]
  simp [exP, srt, snumR, stoR, skeyF, h1, h2, Vl.kind, ktxt, Vl.text]
theorem exP_ok : PathOk exP := ⟨by decide, by decide +kernel, by
  intro s hs
  simp only [exP, List.mem_cons, List.not_mem_nil, or_false] at hs
  rcases hs with rfl | rfl | rfl <;> exact short_leaf _ _ _⟩
theorem exT_steps : psteps exT = exP := by rw [← exP_text]; exact psteps_text exP_right exP_ok.2.1
theorem exT_text : ptext exP = exT := by rw [ptext, if_pos exP_right, exP_text]
theorem exParse {gls : List (Nat × List Value)} {eF : Value} (hg : PG gls eF) : EFq Tryz.prog Tb gls 22 [sP exT] (.tup [stD exP, .one (.cell .nilIface)]) := by
  have h := parse_q hg exT (by decide)
  rwa [PY, exT_steps, if_pos exT_text] at h
theorem exText (gls : List (Nat × List Value)) : EFq Tryz.prog Tb gls 23 [stD exP] (.part (sP exT)) := by
  have h := ptext_q gls exP exP_ok
  rwa [exT_text] at h
set_option maxRecDepth 100000 in
set_option maxHeartbeats 1000000 in
theorem palive_q {gls : List (Nat × List Value)} {eF : Value} (hg : PG gls eF) : EFq Tryz.prog Tb gls 6 [] (.part (tP true)) := by
  refine efq_enter 41 Tryz.func6 rfl rfl rfl fun w D hq => ?_
  try refine e_fl ?_
  refine e_plain (w_as rfl rfl rfl rfl rfl .nil) ?_
  try refine e_fl ?_
  refine e_plain (w_op rfl rfl rfl (s_callw rfl (by kernel_rfl) (efq_w tb_stab hq (exParse hg) (fun _ h => h) (fun _ h => h)) ⟨(kn rfl), trivial⟩) (w_mv rfl rfl rfl rfl rfl (w_op rfl rfl rfl (s_extract rfl (kn rfl) rfl) (w_op rfl rfl rfl (s_extract rfl (kn rfl) rfl) (w_as rfl rfl rfl rfl rfl (w_as rfl rfl rfl rfl rfl .nil)))))) ?_
  try refine e_fl ?_
  refine e_plain (w_mv rfl rfl rfl rfl rfl (w_op rfl rfl rfl (s_nil_eql rfl (kn rfl) ifc_56) (w_mv rfl rfl rfl rfl rfl (Walk.gd _ rfl rfl rfl (fun h => s_move rfl (kn rfl)) (Walk.gd _ rfl rfl rfl (fun h => s_len rfl (kn_opt rfl h) sle_29) (Walk.gd _ rfl rfl rfl (fun h => s_bin rfl (kn_opt rfl h) (kn rfl) v_eql) (w_op rfl rfl rfl (s_and rfl (kn rfl) (fun hb => kn_opt rfl hb)) (w_mv rfl rfl rfl rfl rfl (Walk.gd _ rfl rfl rfl (fun h => s_move rfl (kn rfl)) (Walk.gd _ rfl rfl rfl (fun h => s_index rfl (kn_opt rfl h) (kn rfl) (by omega) rfl stDats_len sle_29 esz_29 (stDats_sd ⟨1, 1, 0, vnone⟩)) (Walk.gd _ rfl rfl rfl (fun h => s_faddr_ref rfl (kn_opt rfl h) off_62_1) (Walk.gd _ rfl rfl rfl (fun h => s_load1_ref rfl (kn_opt rfl h) one_3) (Walk.gd _ rfl rfl rfl (fun h => s_bin rfl (kn_opt rfl h) (kn rfl) v_eql) (w_op rfl rfl rfl (s_and rfl (kn rfl) (fun hb => kn_opt rfl hb)) (w_mv rfl rfl rfl rfl rfl (Walk.gd _ rfl rfl rfl (fun h => s_move rfl (kn rfl)) (Walk.gd _ rfl rfl rfl (fun h => s_index rfl (kn_opt rfl h) (kn rfl) (by omega) rfl stDats_len sle_29 esz_29 (stDats_sd ⟨2, 0, 0, ktxt [97]⟩)) (Walk.gd _ rfl rfl rfl (fun h => s_faddr_ref rfl (kn_opt rfl h) off_62_3) (Walk.gd _ rfl rfl rfl (fun h => s_faddr_ref rfl (kn_opt rfl h) off_27_2) (Walk.gd _ rfl rfl rfl (fun h => s_load1_ref rfl (kn_opt rfl h) one_9) (Walk.gd _ rfl rfl rfl (fun h => s_bin rfl (kn_opt rfl h) (kn rfl) (v_seql (a := [97]) (b := [97]))) (w_op rfl rfl rfl (s_and rfl (kn rfl) (fun hb => kn_opt rfl hb)) (w_mv rfl rfl rfl rfl rfl (Walk.gd _ rfl rfl rfl (fun h => s_move rfl (kn rfl)) (Walk.gd _ rfl rfl rfl (fun h => s_index rfl (kn_opt rfl h) (kn rfl) (by omega) rfl stDats_len sle_29 esz_29 (stDats_sd ⟨3, 2, 0, vnone⟩)) (Walk.gd _ rfl rfl rfl (fun h => s_faddr_ref rfl (kn_opt rfl h) off_62_0) (Walk.gd _ rfl rfl rfl (fun h => s_load1_ref rfl (kn_opt rfl h) one_3) (Walk.gd _ rfl rfl rfl (fun h => s_bin rfl (kn_opt rfl h) (kn rfl) v_eql) (w_op rfl rfl rfl (s_and rfl (kn rfl) (fun hb => kn_opt rfl hb)) (w_mv rfl rfl rfl rfl rfl (Walk.gd _ rfl rfl rfl (fun h => s_move rfl (kn rfl)) (Walk.gd _ rfl rfl rfl (fun h => s_callw rfl (by kernel_rfl) (efq_w tb_stab hq (exText _) (fun _ h => h) (fun _ h => h)) ⟨(kn_opt rfl h), trivial⟩) (Walk.gd _ rfl rfl rfl (fun h => s_bin rfl (kn_opt rfl h) (kn rfl) (v_seql (a := exT) (b := exT))) (w_op rfl rfl rfl (s_and rfl (kn rfl) (fun hb => kn_opt rfl hb)) (w_as rfl rfl rfl rfl rfl .nil))))))))))))))))))))))))))))))))))) ?_
  try refine e_fl ?_
  exact e_return rfl rfl (.tmp (kn rfl) (.nil)) (tP_eq rfl) rfl
end Go.Proofs.YtagoikglbifhmaaGreatDoor
namespace Go.Proofs.YtagoikglbifhmaaGreatDoor
open Go.RowKit
def ddS : List Nat → BL → BL
  | _, [] => []
  | sn, (j, x) :: l => bif sn.any fun c => Nat.beq c j then ddS sn l else (j, x) :: ddS (j :: sn) l
theorem lk_ddS : ∀ (l : BL) (sn : List Nat) (b : Nat), b ∉ sn → lk b (ddS sn l) = lk b l
  | [], _, _, _ => rfl
  | (j, x) :: l, sn, b, hb => by
    unfold ddS
    cases h : sn.any fun c => Nat.beq c j with
    | true =>
      obtain ⟨c, hc, e⟩ := List.any_eq_true.1 h
      have e' : c = j := Nat.eq_of_beq_eq_true e
      have hj : j ≠ b := fun e2 => hb (by rw [← e2, ← e']; exact hc)
      rw [cond_true, lk_ddS l sn b hb, lk_cons_ne _ _ hj]
    | false =>
      rw [cond_false]
      by_cases e : j = b
      · subst e
        rw [lk_cons_eq, lk_cons_eq]
      · rw [lk_cons_ne _ _ e, lk_cons_ne _ _ e]
        exact lk_ddS l (j :: sn) b (by
          rintro (_ | ⟨_, h⟩)
          · exact e rfl
          · exact hb h)
section
variable {cx : Cx} {T : TL} {B B' : BL} {R : RL} {K : Act → World → Prop}
theorem Dc.lkB (h : ∀ b, lk b B = lk b B') (M : Nat → Nat) (V : Nat → Value) (w : World) : Dc cx B R M V w = Dc cx B' R M V w := by
  funext g
  unfold Dc
  simp only [h]
theorem e_lkB (h : ∀ b, lk b B = lk b B') (hE : E cx T B' R K) : E cx T B R K := fun M V a w hr => by
  have hD := Dc.lkB (cx := cx) (R := R) h M V w
  have hh := hr.heap
  refine hE M V a w ⟨hr.size, hr.defers, ⟨hh.below, hh.d0, hh.bl, hh.gl, fun b x hx => ?_, fun r x hx => ?_, hh.ro, hh.pin, fun b c x y hx hy => hh.bb b c x y (by rw [h]; exact hx) (by rw [h]; exact hy), fun b r x y g hx => hh.br b r x y g (by rw [h]; exact hx), hh.rr⟩, fun t x hx => ?_⟩
  · have := hh.box b x (by rw [h]; exact hx)
    rwa [hD] at this
  · have := hh.row r x hx
    rwa [hD] at this
  · have := hr.tmp t x hx
    rwa [hD] at this
theorem e_dd (hE : E cx T B R K) : E cx T (ddS [] B) R K := e_lkB (fun b => lk_ddS B [] b (by simp)) hE
end
end Go.Proofs.YtagoikglbifhmaaGreatDoor
