/- Part 16 of what the last text of this claim is proved by: walks over the program, and the math behind them. Conditions: as each theorem says. -/
import Derived.Test.YtagoikglbifhmaaGreatDoorPA15
import Derived.Test.YtagoikglbifhmaaGreatDoorProg
import Derived.Laws.Slices
import Derived.ChangeMaps5
import Derived.Carry
namespace Go.Proofs.YtagoikglbifhmaaGreatDoor
open Go.RowKit
def PRight (v : Vl) : Prop := EF Tryz.prog [] 9 [.many (vd v)] (.part (tP (vright v)))
set_option maxRecDepth 100000 in
theorem fright_ef (f : Int × Vl) (hr : PRight f.2) : EF Tryz.prog [] 27 [.many (fd f)] (.part (tP (fok f))) := by
  refine ef_enter 17 Tryz.func27 rfl rfl rfl fun w D => ?_
  try refine e_fl ?_
  refine e_list ?_
  refine e_box 1 rfl rfl rfl rfl (kn rfl) rfl rfl rfl rfl ?_
  refine l_as ?_
  refine e_nil ?_
  try refine e_fl ?_
  refine e_plain (w_op rfl rfl rfl (s_faddr_box rfl (kn rfl) off_66_0) (w_op rfl rfl rfl (s_load1_box rfl (kn rfl) rfl rfl one_3) (w_op rfl rfl rfl (s_call rfl (by kernel_rfl) (fieldNumber_ef f.1) ⟨(kn rfl), trivial⟩) (w_mv rfl rfl rfl rfl rfl (Walk.gd _ rfl rfl rfl (fun h => s_faddr_box rfl (kn rfl) off_66_1) (Walk.gd _ rfl rfl rfl (fun h => s_faddr_box rfl (kn_opt rfl h) off_27_0) (Walk.gd _ rfl rfl rfl (fun h => s_load1_box rfl (kn_opt rfl h) rfl rfl one_3) (Walk.gd _ rfl rfl rfl (fun h => s_bin rfl (kn_opt rfl h) (kn rfl) v_neq) (w_op rfl rfl rfl (s_and rfl (kn rfl) (fun hb => kn_opt rfl hb)) (w_mv rfl rfl rfl rfl rfl (Walk.gd _ rfl rfl rfl (fun h => s_faddr_box rfl (kn rfl) off_66_1) (Walk.gd _ rfl rfl rfl (fun h => s_loadn_box (ds := [_, _, _, _, _, _, _]) 7 rfl (kn_opt rfl h) rfl rfl agg_27 sz_27 rfl) (Walk.gd _ rfl rfl rfl (fun h => s_call rfl (by kernel_rfl) (hr) ⟨(kn_opt rfl h), trivial⟩) (w_op rfl rfl rfl (s_and rfl (kn rfl) (fun hb => kn_opt rfl hb)) (w_as rfl rfl rfl rfl rfl .nil))))))))))))))) ?_
  try refine e_fl ?_
  exact e_return rfl rfl (.tmp (kn rfl) (.nil)) (tP_eq rfl) rfl
set_option maxRecDepth 100000 in
theorem single_ef (x : Vl) (hr : PRight x) : EF Tryz.prog [] 31 [.many (vd x)] (.part (tP (vsing x))) := by
  refine ef_enter 15 Tryz.func31 rfl rfl rfl fun w D => ?_
  try refine e_fl ?_
  refine e_list ?_
  refine e_box 1 rfl rfl rfl rfl (kn rfl) rfl rfl rfl rfl ?_
  refine l_as ?_
  refine e_nil ?_
  try refine e_fl ?_
  refine e_plain (w_op rfl rfl rfl (s_faddr_box rfl (kn rfl) off_27_0) (w_op rfl rfl rfl (s_load1_box rfl (kn rfl) rfl rfl one_3) (w_op rfl rfl rfl (s_bin rfl (kn rfl) (kn rfl) v_geq) (w_mv rfl rfl rfl rfl rfl (Walk.gd _ rfl rfl rfl (fun h => s_faddr_box rfl (kn rfl) off_27_0) (Walk.gd _ rfl rfl rfl (fun h => s_load1_box rfl (kn_opt rfl h) rfl rfl one_3) (Walk.gd _ rfl rfl rfl (fun h => s_bin rfl (kn_opt rfl h) (kn rfl) v_leq) (w_op rfl rfl rfl (s_and rfl (kn rfl) (fun hb => kn_opt rfl hb)) (w_mv rfl rfl rfl rfl rfl (Walk.gd _ rfl rfl rfl (fun h => s_loadn_box (ds := [_, _, _, _, _, _, _]) 7 rfl (kn rfl) rfl rfl agg_27 sz_27 rfl) (Walk.gd _ rfl rfl rfl (fun h => s_call rfl (by kernel_rfl) (hr) ⟨(kn_opt rfl h), trivial⟩) (w_op rfl rfl rfl (s_and rfl (kn rfl) (fun hb => kn_opt rfl hb)) (w_as rfl rfl rfl rfl rfl .nil))))))))))))) ?_
  try refine e_fl ?_
  exact e_return rfl rfl (.tmp (kn rfl) (.nil)) (tP_eq rfl) rfl
set_option maxRecDepth 100000 in
theorem pairright_ef (p : Vl × Vl) (h1 : PRight p.1) (h2 : PRight p.2) : EF Tryz.prog [] 53 [.many (pd p)] (.part (tP (vright p.1 && vsing p.2))) := by
  refine ef_enter 11 Tryz.func53 rfl rfl rfl fun w D => ?_
  try refine e_fl ?_
  refine e_list ?_
  refine e_box 1 rfl rfl rfl rfl (kn rfl) rfl rfl rfl rfl ?_
  refine l_as ?_
  refine e_nil ?_
  try refine e_fl ?_
  refine e_plain (w_op rfl rfl rfl (s_faddr_box rfl (kn rfl) off_82_0) (w_op rfl rfl rfl (s_loadn_box (ds := [_, _, _, _, _, _, _]) 7 rfl (kn rfl) rfl rfl agg_27 sz_27 rfl) (w_op rfl rfl rfl (s_call rfl (by kernel_rfl) (h1) ⟨(kn rfl), trivial⟩) (w_mv rfl rfl rfl rfl rfl (Walk.gd _ rfl rfl rfl (fun h => s_faddr_box rfl (kn rfl) off_82_1) (Walk.gd _ rfl rfl rfl (fun h => s_loadn_box (ds := [_, _, _, _, _, _, _]) 7 rfl (kn_opt rfl h) rfl rfl agg_27 sz_27 rfl) (Walk.gd _ rfl rfl rfl (fun h => s_call rfl (by kernel_rfl) (single_ef p.2 h2) ⟨(kn_opt rfl h), trivial⟩) (w_op rfl rfl rfl (s_and rfl (kn rfl) (fun hb => kn_opt rfl hb)) (w_as rfl rfl rfl rfl rfl .nil))))))))) ?_
  try refine e_fl ?_
  exact e_return rfl rfl (.tmp (kn rfl) (.nil)) (tP_eq rfl) rfl
set_option maxRecDepth 100000 in
theorem cloK_eg (z : Int) (p : Vl × Vl) (h1 : PRight p.1) (h2 : PRight p.2) : EG Tryz.prog [] 52 [.part (.many (pd p)), .box 3 0] (kB z) [] (YB z (pok z p)) := by
  refine eg_enter 13 Tryz.func52 rfl rfl rfl fun w D bor mb => ?_
  try refine e_fl ?_
  refine e_list ?_
  refine e_box 2 rfl rfl rfl rfl (kn rfl) rfl rfl rfl rfl ?_
  refine l_as ?_
  refine e_nil ?_
  try refine e_fl ?_
  refine e_plain (w_op rfl rfl rfl (s_faddr_box rfl (kn rfl) off_82_0) (w_op rfl rfl rfl (s_faddr_box rfl (kn rfl) off_27_0) (w_op rfl rfl rfl (s_load1_box rfl (kn rfl) rfl rfl one_3) (w_op rfl rfl rfl (s_load1_box rfl (kn rfl) rfl rfl one_3) (w_op rfl rfl rfl (s_bin rfl (kn rfl) (kn rfl) v_eql) (w_mv rfl rfl rfl rfl rfl (Walk.gd _ rfl rfl rfl (fun h => s_loadn_box (ds := [_, _, _, _, _, _, _, _, _, _, _, _, _, _]) 14 rfl (kn rfl) rfl rfl agg_82 sz_82 rfl) (Walk.gd _ rfl rfl rfl (fun h => s_call rfl (by kernel_rfl) (pairright_ef p h1 h2) ⟨(kn_opt rfl h), trivial⟩) (w_op rfl rfl rfl (s_and rfl (kn rfl) (fun hb => kn_opt rfl hb)) (w_as rfl rfl rfl rfl rfl .nil)))))))))) ?_
  try refine e_fl ?_
  exact e_returnx (kB z) ([]) rfl (.tmp (kn rfl) (.nil)) (Imp.refl _) ⟨s_b, trivial⟩ trivial (⟨rfl, rfl, rfl⟩)
set_option maxRecDepth 100000 in
theorem pairsRight_ef (v : Vl) (hs : Short v) (hv : v.pairs ≠ []) (hp : ∀ p ∈ v.pairs, PRight p.1 ∧ PRight p.2) : EF Tryz.prog [] 32 [.many (vd v)] (.part (tP (prights v.pairs))) := by
  obtain ⟨p0, hp0⟩ : ∃ p0, v.pairs[0]? = some p0 := ⟨_, List.getElem?_eq_getElem (List.length_pos_iff.2 hv)⟩
  have e : prights v.pairs = ((decide (p0.1.kind = 1) || decide (p0.1.kind = 2)) && (v.pairs.all (pok p0.1.kind) && grises pkeyc v.pairs)) := by
    revert hp0
    cases v.pairs with
    | nil => intro h; cases h
    | cons q ps =>
      intro h
      obtain rfl : q = p0 := by simpa using h
      rfl
  have hlen := (short_len hs).2.2
  refine ef_enter 25 Tryz.func32 rfl rfl rfl fun w D => ?_
  try refine e_fl ?_
  refine e_list ?_
  refine e_box 1 rfl rfl rfl rfl (kn rfl) rfl rfl rfl rfl ?_
  refine l_as ?_
  refine e_nil ?_
  try refine e_fl ?_
  refine e_list ?_
  refine l_op (s_faddr_box rfl (kn rfl) off_27_6) ?_
  refine l_op (s_load1_box rfl (kn rfl) rfl rfl one_25) ?_
  refine l_op (s_index rfl (kn rfl) (kn rfl) (by omega) hp0 pairDats_len sle_25 esz_25 (pairDats_vd p0)) ?_
  refine l_op (s_faddr_ref rfl (kn rfl) off_82_0) ?_
  refine l_op (s_faddr_ref rfl (kn rfl) off_27_0) ?_
  refine l_op (s_load1_ref rfl (kn rfl) one_3) ?_
  refine e_alloc 3 [.is (.int .i64 0)] rfl rfl rfl rfl zr_3 (fun w D M V => ⟨rfl, fun j x v h1 h2 => cfit_is _ h1 h2 rfl⟩) rfl rfl rfl rfl ?_
  refine e_store1 rfl rfl rfl (kn rfl) rfl (kn rfl) rfl rfl sz_3 rfl ?_
  refine e_nil ?_
  try refine e_fl ?_
  refine e_plain (w_op rfl rfl rfl (s_load1_box rfl (kn rfl) rfl rfl one_3) (w_op rfl rfl rfl (s_bin rfl (kn rfl) (kn rfl) v_neq) (w_mv rfl rfl rfl rfl rfl (Walk.gd _ rfl rfl rfl (fun h => s_load1_box rfl (kn rfl) rfl rfl one_3) (Walk.gd _ rfl rfl rfl (fun h => s_bin rfl (kn_opt rfl h) (kn rfl) v_neq) (w_op rfl rfl rfl (s_and rfl (kn rfl) (fun hb => kn_opt rfl hb)) .nil)))))) ?_
  try refine e_fl ?_
  refine e_cond rfl (fun h1 => ?_) (fun h1 => ?_)
  · have e2 : prights v.pairs = false := by
      rw [e]
      have h2 : ¬ p0.1.kind = 1 ∧ ¬ p0.1.kind = 2 := by simpa using h1
      rw [decide_eq_false h2.1, decide_eq_false h2.2]
      rfl
    try refine e_fl ?_
    refine e_plain (w_as rfl rfl rfl rfl rfl .nil) ?_
    try refine e_fl ?_
    exact e_return rfl rfl (.tmp (kn rfl) (.nil)) (tP_eq e2.symm) rfl
  have e2 : prights v.pairs = (v.pairs.all (pok p0.1.kind) && grises pkeyc v.pairs) := by
    have h2 : p0.1.kind = 1 ∨ p0.1.kind = 2 := by
      rcases Decidable.em (p0.1.kind = 1) with h | h
      · exact .inl h
      · refine .inr ?_
        have h3 : ¬ p0.1.kind = 1 → p0.1.kind = 2 := by simpa using h1
        exact h3 h
    rw [e]
    rcases h2 with h2 | h2 <;> rw [h2] <;> rfl
  try refine e_fl ?_
  refine e_list ?_
  refine l_op (s_faddr_box rfl (kn rfl) off_27_6) ?_
  refine l_op (s_load1_box rfl (kn rfl) rfl rfl one_25) ?_
  refine l_op (s_func (fs := []) (cs := [.box 3 0]) rfl trivial ⟨(kn rfl), trivial⟩) ?_
  refine e_calli rfl rfl rfl rfl (by kernel_rfl) (all_pairs_eg p0.1.kind v.pairs hlen (pok p0.1.kind) (fun x hx => cloK_eg p0.1.kind x (hp x hx).1 (hp x hx).2)) ⟨rfl, trivial⟩ trivial ⟨(kn rfl), ⟨(kn rfl), trivial⟩⟩ (YB.tidy) ?_
  rintro _ _ _ ⟨rfl, rfl, rfl⟩
  refine l_mv ?_
  refine e_list_gd rfl rfl rfl (fun h => s_faddr_box rfl (kn rfl) off_27_6) ?_
  refine e_list_gd rfl rfl rfl (fun h => s_load1_box rfl (kn_opt rfl h) rfl rfl one_25) ?_
  refine e_list_gd rfl rfl rfl (fun h => s_call rfl (by kernel_rfl) (rises_pairs_ef 55 (by kernel_rfl) v.pairs hlen pkeyc (fun x hx y hy => byKey_ef x y (vcompare_ef x.1 (short_pair hs hx).1 y.1 (short_pair hs hy).1))) ⟨(kn_opt rfl h), ⟨(kn rfl), trivial⟩⟩) ?_
  refine l_op (s_and rfl (kn rfl) (fun hb => kn_opt rfl hb)) ?_
  refine l_as ?_
  refine e_nil ?_
  try refine e_fl ?_
  exact e_return rfl rfl (.tmp (kn rfl) (.nil)) (tP_eq e2.symm) rfl
set_option maxRecDepth 100000 in
set_option maxHeartbeats 1000000 in
theorem prightv_step (v : Vl) (hs : Short v) (hf : ∀ f ∈ v.fields, PRight f.2) (hl : ∀ x ∈ v.list, PRight x) (hp : ∀ p ∈ v.pairs, PRight p.1 ∧ PRight p.2) : PRight v := by
  unfold PRight
  rw [vright_prog]
  obtain ⟨a1, a2, a3⟩ := short_len hs
  refine ef_enter 43 Tryz.func9 rfl rfl rfl fun w D => ?_
  try refine e_fl ?_
  refine e_list ?_
  refine e_box 1 rfl rfl rfl rfl (kn rfl) rfl rfl rfl rfl ?_
  refine l_as ?_
  refine e_nil ?_
  try refine e_fl ?_
  refine e_plain (w_op rfl rfl rfl (s_loadn_box (ds := [_, _, _, _, _, _, _]) 7 rfl (kn rfl) rfl rfl agg_27 sz_27 rfl) (w_op rfl rfl rfl (s_call rfl (by kernel_rfl) (bare_ef v) ⟨(kn rfl), trivial⟩) (w_op rfl rfl rfl (s_not rfl (kn rfl)) .nil))) ?_
  try refine e_fl ?_
  refine e_cond rfl (fun h => ?_) (fun h => ?_)
  · have e : vrightP v = false := by
      unfold vrightP
      rw [show vbare v = false by simpa using h]
      rfl
    try refine e_fl ?_
    refine e_plain (w_as rfl rfl rfl rfl rfl .nil) ?_
    try refine e_fl ?_
    exact e_return rfl rfl (.tmp (kn rfl) (.nil)) (tP_eq e.symm) rfl
  have e : vrightP v = (if v.kind = 0 ∨ v.kind = 1 ∨ v.kind = 2 then true else if v.kind = 3 then v.fields.all fok && grises fnumc v.fields else if v.kind = 4 then decide (v.list ≠ []) && v.list.all vsing else if v.kind = 5 then prights v.pairs else false) := by
    unfold vrightP
    rw [show vbare v = true by simpa using h]
    exact Bool.true_and _
  clear h
  try refine e_fl ?_
  refine e_plain (w_op rfl rfl rfl (s_faddr_box rfl (kn rfl) off_27_0) (w_op rfl rfl rfl (s_load1_box rfl (kn rfl) rfl rfl one_3) .nil)) ?_
  try refine e_fl ?_
  try refine e_fl ?_
  refine e_plain (w_op rfl rfl rfl (s_bin rfl (kn rfl) (kn rfl) v_eql) (w_as rfl rfl rfl rfl rfl .nil)) ?_
  try refine e_fl ?_
  refine e_cond rfl (fun q0 => ?_) (fun q0 => ?_)
  · try refine e_fl ?_
    refine e_cond rfl (fun _ => ?_) (fun h => absurd (h.symm.trans q0) (by decide))
    try refine e_fl ?_
    refine e_plain (w_as rfl rfl rfl rfl rfl .nil) ?_
    try refine e_fl ?_
    exact e_return rfl rfl (.tmp (kn rfl) (.nil)) (tP_eq (by rw [e]; exact (if_pos (.inl (of_decide_eq_true q0))).symm)) rfl
  try refine e_fl ?_
  refine e_plain (w_op rfl rfl rfl (s_bin rfl (kn rfl) (kn rfl) v_eql) (w_as rfl rfl rfl rfl rfl .nil)) ?_
  try refine e_fl ?_
  refine e_cond rfl (fun q1 => ?_) (fun q1 => ?_)
  · try refine e_fl ?_
    refine e_cond rfl (fun _ => ?_) (fun h => absurd (h.symm.trans q1) (by decide))
    try refine e_fl ?_
    refine e_plain (w_as rfl rfl rfl rfl rfl .nil) ?_
    try refine e_fl ?_
    exact e_return rfl rfl (.tmp (kn rfl) (.nil)) (tP_eq (by rw [e]; exact (if_pos (.inr (.inl (of_decide_eq_true q1)))).symm)) rfl
  try refine e_fl ?_
  refine e_plain (w_op rfl rfl rfl (s_bin rfl (kn rfl) (kn rfl) v_eql) (w_as rfl rfl rfl rfl rfl .nil)) ?_
  try refine e_fl ?_
  try refine e_fl ?_
  refine e_cond rfl (fun q2 => ?_) (fun q2 => ?_)
  · try refine e_fl ?_
    refine e_plain (w_as rfl rfl rfl rfl rfl .nil) ?_
    try refine e_fl ?_
    exact e_return rfl rfl (.tmp (kn rfl) (.nil)) (tP_eq (by rw [e]; exact (if_pos (.inr (.inr (of_decide_eq_true q2)))).symm)) rfl
  have n0 := of_decide_eq_false q0
  have n1 := of_decide_eq_false q1
  have n2 := of_decide_eq_false q2
  rw [if_neg (by omega)] at e
  try refine e_fl ?_
  refine e_plain (w_op rfl rfl rfl (s_bin rfl (kn rfl) (kn rfl) v_eql) (w_as rfl rfl rfl rfl rfl .nil)) ?_
  try refine e_fl ?_
  refine e_cond rfl (fun q3 => ?_) (fun q3 => ?_)
  · rw [if_pos (of_decide_eq_true q3)] at e
    try refine e_fl ?_
    refine e_plain (w_op rfl rfl rfl (s_faddr_box rfl (kn rfl) off_27_3) (w_op rfl rfl rfl (s_load1_box rfl (kn rfl) rfl rfl one_23) (w_op rfl rfl rfl (s_call rfl (by kernel_rfl) (all_fields_ef 27 (by kernel_rfl) v.fields a1 fok (fun x hx => fright_ef x (hf x hx))) ⟨(kn rfl), ⟨(kn rfl), trivial⟩⟩) (w_mv rfl rfl rfl rfl rfl (Walk.gd _ rfl rfl rfl (fun h => s_faddr_box rfl (kn rfl) off_27_3) (Walk.gd _ rfl rfl rfl (fun h => s_load1_box rfl (kn_opt rfl h) rfl rfl one_23) (Walk.gd _ rfl rfl rfl (fun h => s_call rfl (by kernel_rfl) (rises_fields_ef 29 (by kernel_rfl) v.fields a1 fnumc (fun x _ y _ => byNumber_ef x y)) ⟨(kn_opt rfl h), ⟨(kn rfl), trivial⟩⟩) (w_op rfl rfl rfl (s_and rfl (kn rfl) (fun hb => kn_opt rfl hb)) (w_as rfl rfl rfl rfl rfl .nil))))))))) ?_
    try refine e_fl ?_
    exact e_return rfl rfl (.tmp (kn rfl) (.nil)) (tP_eq e.symm) rfl
  rw [if_neg (of_decide_eq_false q3)] at e
  try refine e_fl ?_
  refine e_plain (w_op rfl rfl rfl (s_bin rfl (kn rfl) (kn rfl) v_eql) (w_as rfl rfl rfl rfl rfl .nil)) ?_
  try refine e_fl ?_
  refine e_cond rfl (fun q4 => ?_) (fun q4 => ?_)
  · rw [if_pos (of_decide_eq_true q4)] at e
    try refine e_fl ?_
    refine e_plain (w_op rfl rfl rfl (s_faddr_box rfl (kn rfl) off_27_5) (w_op rfl rfl rfl (s_load1_box rfl (kn rfl) rfl rfl one_24) (w_op rfl rfl rfl (s_len rfl (kn rfl) sle_24) (w_op rfl rfl rfl (s_bin rfl (kn rfl) (kn rfl) v_gtr) (w_mv rfl rfl rfl rfl rfl (Walk.gd _ rfl rfl rfl (fun h => s_faddr_box rfl (kn rfl) off_27_5) (Walk.gd _ rfl rfl rfl (fun h => s_load1_box rfl (kn_opt rfl h) rfl rfl one_24) (Walk.gd _ rfl rfl rfl (fun h => s_call rfl (by kernel_rfl) (all_list_ef 31 (by kernel_rfl) v.list a2 vsing (fun x hx => single_ef x (hl x hx))) ⟨(kn_opt rfl h), ⟨(kn rfl), trivial⟩⟩) (w_op rfl rfl rfl (s_and rfl (kn rfl) (fun hb => kn_opt rfl hb)) (w_as rfl rfl rfl rfl rfl .nil)))))))))) ?_
    try refine e_fl ?_
    exact e_return rfl rfl (.tmp (kn rfl) (.nil)) (tP_eq (by rw [e]; simp [Nat.pos_iff_ne_zero])) rfl
  rw [if_neg (of_decide_eq_false q4)] at e
  try refine e_fl ?_
  refine e_plain (w_op rfl rfl rfl (s_bin rfl (kn rfl) (kn rfl) v_eql) (w_as rfl rfl rfl rfl rfl .nil)) ?_
  try refine e_fl ?_
  refine e_cond rfl (fun q5 => ?_) (fun q5 => ?_)
  · rw [if_pos (of_decide_eq_true q5)] at e
    try refine e_fl ?_
    refine e_plain (w_op rfl rfl rfl (s_faddr_box rfl (kn rfl) off_27_6) (w_op rfl rfl rfl (s_load1_box rfl (kn rfl) rfl rfl one_25) (w_op rfl rfl rfl (s_len rfl (kn rfl) sle_25) (w_op rfl rfl rfl (s_bin rfl (kn rfl) (kn rfl) v_gtr) (w_mv rfl rfl rfl rfl rfl (Walk.gd _ rfl rfl rfl (fun h => s_loadn_box (ds := [_, _, _, _, _, _, _]) 7 rfl (kn rfl) rfl rfl agg_27 sz_27 rfl) (Walk.gd _ rfl rfl rfl (fun h => s_call rfl (by kernel_rfl) (pairsRight_ef v hs (List.length_pos_iff.1 (by have := of_decide_eq_true h; omega)) hp) ⟨(kn_opt rfl h), trivial⟩) (w_op rfl rfl rfl (s_and rfl (kn rfl) (fun hb => kn_opt rfl hb)) (w_as rfl rfl rfl rfl rfl .nil))))))))) ?_
    try refine e_fl ?_
    exact e_return rfl rfl (.tmp (kn rfl) (.nil)) (tP_eq (by rw [e]; cases hv : v.pairs <;> simp [prights])) rfl
  rw [if_neg (of_decide_eq_false q5)] at e
  try refine e_fl ?_
  refine e_plain (w_as rfl rfl rfl rfl rfl .nil) ?_
  try refine e_fl ?_
  exact e_return rfl rfl (.tmp (kn rfl) (.nil)) (tP_eq e.symm) rfl
theorem vright_ef (v : Vl) (hv : Short v) : PRight v := by
  revert hv
  exact Vl.parts (P := fun a => Short a → PRight a) (fun v hf hl hp ha => prightv_step v ha (fun f h => hf f h (short_field ha h)) (fun x h => hl x h (short_elem ha h)) (fun p h => ⟨(hp p h).1 (short_pair ha h).1, (hp p h).2 (short_pair ha h).2⟩)) v
end Go.Proofs.YtagoikglbifhmaaGreatDoor
namespace Go.Proofs.YtagoikglbifhmaaGreatDoor
open Go.RowKit
theorem flat_drop {α : Type} {f : α → List Dat} {k : Nat} (hk : ∀ a, (f a).length = k) : ∀ (qs : List α) (i : Nat), (qs.flatMap f).drop (i * k) = (qs.drop i).flatMap f
  | [], i => by simp
  | q :: qs, 0 => by simp
  | q :: qs, i + 1 => by
    rw [List.flatMap_cons, List.drop_succ_cons, ← flat_drop hk qs i, List.drop_append, List.drop_eq_nil_of_le (by rw [hk, Nat.succ_mul]; omega), List.nil_append, hk, Nat.succ_mul, Nat.add_sub_cancel]
theorem flat_take {α : Type} {f : α → List Dat} {k : Nat} (hk : ∀ a, (f a).length = k) : ∀ (qs : List α) (i : Nat), (qs.flatMap f).take (i * k) = (qs.take i).flatMap f
  | [], i => by simp
  | q :: qs, 0 => by simp
  | q :: qs, i + 1 => by
    rw [List.flatMap_cons, List.take_succ_cons, List.flatMap_cons, ← flat_take hk qs i, List.take_append, List.take_of_length_le (by rw [hk, Nat.succ_mul]; omega), hk, Nat.succ_mul, Nat.add_sub_cancel]
theorem lies_part {w : World} {D : Nat → Prop} {k : Nat} {α : Type} {f : α → List Dat} (hk : ∀ a, (f a).length = k) {qs : List α} {p : Option Addr} {c lo hi : Nat} (h : Lies w D (.row k qs.length (qs.flatMap f)) (.slice p qs.length c)) (hlh : lo ≤ hi) (hh : hi ≤ qs.length) (hc : qs.length ≤ c) :
    Lies w D (.row k ((qs.take hi).drop lo).length (((qs.take hi).drop lo).flatMap f)) (.slice (if c = lo then p else p.map (·.add (lo * k))) (hi - lo) (c - lo)) := by
  have hl : ((qs.take hi).drop lo).length = hi - lo := by rw [List.length_drop, List.length_take]; omega
  rcases Nat.eq_zero_or_pos (hi - lo) with h0 | h0
  · rw [hl, h0, List.eq_nil_of_length_eq_zero (hl.trans h0)]
    exact .none _ _ _
  · have hne : ¬ c = lo := by omega
    rw [if_neg hne, hl]
    have hd : ((qs.take hi).drop lo).flatMap f = ((qs.flatMap f).drop (lo * k)).take ((hi - lo) * k) := by
      rw [flat_drop hk, flat_take hk, List.drop_take]
    rw [hd]
    have hp : ∃ b o, p = some ⟨b, o, none⟩ := by
      generalize hn : qs.length = n at h
      generalize qs.flatMap f = ds at h
      cases h with
      | none => omega
      | row k n b o c ds X => exact ⟨b, o, rfl⟩
    obtain ⟨b, o, rfl⟩ := hp
    have hadd : (⟨b, o, none⟩ : Addr).add (lo * k) = ⟨b, o + lo * k, none⟩ := by unfold Addr.add; split <;> simp_all
    rw [Option.map_some, hadd]
    exact lies_sub h hlh hh _ (by omega)
theorem row_cap {w : World} {D : Nat → Prop} {k n : Nat} {ds : List Dat} {v : Value} (h : Lies w D (.row k n ds) v) : ∃ p c, v = .slice p n c ∧ n ≤ c := by
  cases h with
  | none k p c => exact ⟨p, c, rfl, Nat.zero_le _⟩
  | row k n b o c ds X h1 h2 => exact ⟨_, c, rfl, h2⟩
section
variable {P : Program} {cx : Cx} {T : TL} {B : BL} {R : RL} {o : Oper}
theorem s_rslice_to {x hi : Operand} {t : TypeId} {k : Nat} {α : Type} {f : α → List Dat} {qs : List α} {kk : IntKind} {z : Int} (ho : o.op = .slice t x none (some hi) none) (hx : Kn T x (.part (.one (.row k qs.length (qs.flatMap f))))) (hh : Kn T hi (.is (.int kk z))) (hz : 0 ≤ z ∧ z ≤ (qs.length : Int)) (hk : ∀ a, (f a).length = k) (ht : P.underlying t = some (.slice (P.elem t))) (hs : sizeT P (P.elem t) = some k) :
    LStep P cx B R o T (.part (.one (.row k (qs.take z.toNat).length ((qs.take z.toNat).flatMap f)))) := LStep.same fun M V w a _ hkk => by
  have h1 := (hkk hi _ (by simp [ho, Op.operands]) hh).is_eq
  have hv := hkk x _ (by simp [ho, Op.operands]) hx
  obtain ⟨p, c, h2, h3⟩ := row_cap hv
  rw [h2] at hv
  have h4 := lies_part hk hv (Nat.zero_le z.toNat) (by omega) h3
  have h5 := run_slice_h (P := P) (w := w) t p qs.length c ht kk z hz.1 (by omega)
  rw [run_sizeT hs, Result.andThen_ok, ← run_sliceAt_slice _ _ _ _ _ _ ht] at h5
  rw [List.drop_zero] at h4
  exact ⟨sliced _ _ _ _ _, by simp [execOp, ho, h1, h2, h5], h4⟩
end
end Go.Proofs.YtagoikglbifhmaaGreatDoor
namespace Go.Proofs.YtagoikglbifhmaaGreatDoor
open Go.RowKit
section
variable {P : Program} {cx : Cx} {T : TL} {B : BL} {R : RL} {o : Oper}
variable {α : Type}
def MEs (w : World) (D : Nat → Prop) (kf : α → Value) : List (α × Dat) → List MapEntry → Prop
  | [], [] => True
  | p :: ps, e :: es => e.key = kf p.1 ∧ Lies w D p.2 e.val ∧ MEs w D kf ps es
  | _, _ => False
variable {w w' : World} {D D' : Nat → Prop} {kf : α → Value}
theorem MEs.length : ∀ {ps : List (α × Dat)} {es : List MapEntry}, MEs w D kf ps es → es.length = ps.length
  | [], [], _ => rfl
  | _ :: _, _ :: _, h => by simp [MEs.length h.2.2]
  | [], _ :: _, h => h.elim
  | _ :: _, [], h => h.elim
theorem MEs.stay (hk : Keeps D w w') (hD : ∀ g, D g → D' g) : ∀ {ps : List (α × Dat)} {es : List MapEntry}, MEs w D kf ps es → MEs w' D' kf ps es
  | [], [], _ => trivial
  | _ :: _, _ :: _, h => ⟨h.1, h.2.1.stay hk hD, MEs.stay hk hD h.2.2⟩
  | [], _ :: _, h => h.elim
  | _ :: _, [], h => h.elim
variable [DecidableEq α]
end
end Go.Proofs.YtagoikglbifhmaaGreatDoor
namespace Go.Proofs.YtagoikglbifhmaaGreatDoor
open Go.RowKit
section
variable {P : Program} {cx : Cx} {T : TL} {B : BL} {R : RL} {o : Oper}
theorem add_none (b o k : Nat) : (⟨b, o, none⟩ : Addr).add k = ⟨b, o + k, none⟩ := by unfold Addr.add; split <;> simp_all
end
end Go.Proofs.YtagoikglbifhmaaGreatDoor
namespace Go.Proofs.YtagoikglbifhmaaGreatDoor
open Go.RowKit
theorem Imp.ptr_ref (t : TypeId) (ds : List Dat) : Imp (.part (.one (.ptr t ds))) (.ref ds) := fun w D M V v h => by
  have h' : Lies w D (.ptr t ds) v := h
  cases h' with
  | ptr b t ds xs hD hb hl hx => exact ⟨b, 0, rfl, hD, xs, ⟨hl, fun j d x h1 h2 => hx j d x h1 h2⟩, fun j x hj => by rw [Nat.zero_add, hb.cell]; exact hj⟩
section
variable {P : Program} {cx : Cx} {T : TL} {B : BL} {R : RL} {o : Oper}
theorem s_iaddr_ref {x i : Operand} {t : TypeId} {k : Nat} {ds : List Dat} {kk : IntKind} {z : Int} (ho : o.op = .indexAddr t x i) (hx : Kn T x (.ref ds)) (hi : Kn T i (.is (.int kk z))) (hz : 0 ≤ z ∧ z < (P.arrayLen t : Int)) (ht : P.underlying t = some (.array (P.arrayLen t) (P.elem t))) (hs : sizeT P (P.elem t) = some k) :
    LStep P cx B R o T (.ref (ds.drop (z.toNat * k))) := LStep.same fun M V w a hh hk => by
  obtain ⟨b, f, h1, hD, xs, hf, hc⟩ := hk x _ (by simp [ho, Op.operands]) hx
  have h2 := (hk i _ (by simp [ho, Op.operands]) hi).is_eq
  have h7 := run_indexAt_array (P := P) w t ⟨b, f, none⟩ kk z ht
  rw [if_pos ⟨hz.1, hz.2⟩, run_sizeT hs, Result.andThen_ok, add_none] at h7
  refine ⟨_, by simp [execOp, ho, h1, h2, h7], b, f + z.toNat * k, rfl, hD, xs.drop (z.toNat * k), ⟨by simp [hf.1], fun j d x hd hx => ?_⟩, fun j x hx => ?_⟩
  · rw [List.getElem?_drop] at hd hx
    exact hf.2 _ d x hd hx
  · rw [List.getElem?_drop] at hx
    have := hc _ x hx
    rw [← this]
    congr 2
    omega
def shD (R : RL) : IV → Option Dat
  | .part (.one d) => some d
  | .own r => (lk r R).map datOf
  | _ => none
def shows (R : RL) : List IV → Option (List Dat)
  | [] => some []
  | x :: l => match shD R x, shows R l with | some d, some ds => some (d :: ds) | _, _ => none
theorem shows_len : ∀ {l : List IV} {ds : List Dat}, shows R l = some ds → l.length = ds.length
  | [], ds, h => by
    obtain rfl := Option.some.inj h
    rfl
  | x :: l, ds, h => by
    unfold shows at h
    split at h
    · rename_i h2
      obtain rfl := Option.some.inj h
      simp [shows_len h2]
    · cases h
theorem shows_get : ∀ {l : List IV} {ds : List Dat} (_ : shows R l = some ds) {j : Nat} {x : IV} {d : Dat}, l[j]? = some x → ds[j]? = some d → shD R x = some d
  | [], ds, h, j, x, d, hx, hd => by simp at hx
  | y :: l, ds, h, j, x, d, hx, hd => by
    unfold shows at h
    split at h
    · rename_i h1 h2
      obtain rfl := Option.some.inj h
      cases j with
      | zero =>
        obtain rfl : y = x := by simpa using hx
        obtain rfl : _ = d := by simpa using hd
        exact h1
      | succ j => exact shows_get h2 (j := j) (by simpa using hx) (by simpa using hd)
    · cases h
theorem shows_data (ds : List Dat) : shows R (bcs ds) = some ds := by
  induction ds with
  | nil => rfl
  | cons d ds ih =>
    show shows R (.part (.one d) :: bcs ds) = _
    unfold shows
    rw [ih]
    rfl
def Far (y y' : IV) : Prop := ∀ (w : World) (D : Nat → Prop) (M : Nat → Nat) (V : Nat → Value) (w' : World) (D' : Nat → Prop) (M' : Nat → Nat) (V' : Nat → Value) (v : Value), VR w D M V y v → VR w' D' M' V' y' v
theorem Far.is (v : Value) : Far (.is v) (.is v) := fun w D M V w' D' M' V' u h => by
  obtain rfl := VR.is_eq h
  exact .cell _
def LenV (n : Nat) (_ v : Value) : Prop := ∃ p c, v = .slice p n c
theorem Far.row (r k n : Nat) (ds : List Dat) : Far (.part (.one (.row k n ds))) (.via r (LenV n)) := fun w D M V w' D' M' V' u h => by
  obtain ⟨p, c, h1⟩ := row_shape h
  exact ⟨p, c, h1⟩
theorem Gx.dat {w : World} {D D' : Nat → Prop} {base : Nat} {x : Rw} {v : Value} (h : Gx w D base x.ty x.k v x.n x.ds) (hD : ∀ g, D g → D' g) (hv : ∀ g, obk v = some g → D' g) : Lies w D' (datOf x) v := by
  have hk := Keeps.refl D w
  rcases hty : Nat.blt x.ty 1000000 with _ | _
  · rw [datOf_map hty]
    obtain ⟨xs, ⟨h3, _⟩ | ⟨_, g, es, c, e1, _, e2, e3, e4⟩, h5⟩ := h
    · rw [hty] at h3; cases h3
    · rw [e1]
      exact .map g x.n es c x.ds xs (hv g (by rw [e1]; rfl)) e2 e3 e4 h5.1 fun j d y a b => (h5.2 j d y a b).stay hk hD
  · rw [datOf_row hty]
    have h3 := h.row hty
    refine h3.lies hD fun g hg => hv g ?_
    obtain ⟨xs, a2, _⟩ := h3
    exact (obk_row a2).trans hg
theorem s_show {f : FuncId} {x : Operand} {xs : List Operand} {ts : Array TypeId} {b : Nat} {bx : Bx} {ds : List Dat} {ps : List Part} {y y' : IV} (ho : o.op = .call { callee := .value (.func f), args := (x :: xs).toArray, argTypes := ts }) (hc : callable P f = true) (hf : EF P cx.gl f (.one (.ptr bx.ty ds) :: ps) y) (hx : Kn T x (.box b 0)) (hb : lk b B = some bx) (hm : shows R bx.cs = some ds) (hxs : KnA T xs ps) (hy : Far y y') : LStep P cx B R o T y' := fun M V w a hh ht => by
  have hkk : ∀ y z, y ∈ x :: xs → Kn T y z → VR w (Dc cx B R M V w) M V z (a.eval y) := fun y z hm hkx => hkx w _ M V a fun t z' e hz => ht t z' (by
    subst e
    rw [ho]
    simpa [Op.operands, Call.operands] using hm) hz
  have hrun : (execOp a.eval o).run P w = .ok (.enter f ((x :: xs).map a.eval).toArray) w := by
    have he : a.eval (.func f) = .func (.func f) #[] #[] := rfl
    simp [execOp, ho, resolve, he, Deferred.ofValue, invoke, run_callable hc]
  rw [hrun]
  have hxv : a.eval x = .pointer (some ⟨M b, 0, none⟩) := hkk x _ (by simp) hx
  obtain ⟨hown, cells, hblk, hfit⟩ := hh.box b bx hb
  have hlt := hblk.lt
  have hD : ∀ g, Dc cx B R M V w g → g < w.heap.size := fun g hg => hh.dlt hg
  have hps : PsFit w (Dc cx B R M V w) ps (xs.map a.eval) := hxs.fit fun y z hm hkx => hkk y z (by simp [hm]) hkx
  let D' : Nat → Prop := fun g => Dc cx B R M V w g ∨ g = M b ∨ ∃ r x, lk r R = some x ∧ x.fz = false ∧ obk (V r) = some g
  have hk := Keeps.refl (Dc cx B R M V w) w
  have hDD : ∀ g, Dc cx B R M V w g → D' g := fun g h => .inl h
  have hD' : ∀ g, D' g → g < w.heap.size := fun g hg => by
    rcases (show Dc cx B R M V w g ∨ g = M b ∨ ∃ r x, lk r R = some x ∧ x.fz = false ∧ obk (V r) = some g from hg) with hg | rfl | ⟨r, x, h1, h2, h3⟩
    · exact hD g hg
    · exact hlt
    · have h4 := hh.row r x h1
      rw [h2] at h4
      obtain ⟨zs, h5, _⟩ : Gx w (Dc cx B R M V w) 0 x.ty x.k (V r) x.n x.ds := h4
      exact (h5.lt g h3).2
  have hcell : ∀ (j : Nat) d u, ds[j]? = some d → cells[j]? = some u → Lies w D' d u := fun j d u hd hu => by
    have hlen := shows_len hm
    have hj : j < bx.cs.length := by
      rw [hlen]
      rcases Nat.lt_or_ge j ds.length with h | h
      · exact h
      · rw [List.getElem?_eq_none h] at hd; cases hd
    have hxj := List.getElem?_eq_getElem hj
    have h1 := shows_get hm hxj hd
    have h2 := (hfit.2 j _ u hxj hu).1
    generalize bx.cs[j] = q at h1 h2
    cases q with
    | part p =>
      cases p with
      | one e =>
        obtain rfl := Option.some.inj h1
        exact Lies.stay h2 hk hDD
      | many es => cases h1
    | own r =>
      have h3 : u = V r := h2
      subst h3
      cases hr : lk r R with
      | none => simp [shD, hr] at h1
      | some y =>
        have : datOf y = d := by simpa [shD, hr] using h1
        subst this
        have h4 := hh.row r y hr
        cases hfz : y.fz with
        | true =>
          rw [if_pos hfz] at h4
          exact h4.stay hk hDD
        | false =>
          rw [hfz] at h4
          exact Gx.dat (show Gx w (Dc cx B R M V w) 0 y.ty y.k (V r) y.n y.ds from h4) hDD fun g hg => .inr (.inr ⟨r, y, hr, hfz, hg⟩)
    | _ => cases h1
  have hp0 : PFit w D' (.one (.ptr bx.ty ds)) (a.eval x) := by
    rw [hxv]
    exact .ptr (M b) bx.ty ds cells (.inr (.inl rfl)) hblk ((shows_len hm).symm.trans hfit.1) hcell
  refine ⟨rfl, (hf w D' (a.eval x :: xs.map a.eval) hD' hh.glok ⟨hp0, hps.stay hk hDD⟩).mono fun e w' ⟨v, y0, h1, h2, h3, h4⟩ => ?_⟩
  subst h2
  exact ⟨v, h1, h3, hy _ _ _ _ _ _ _ _ _ (h4 M V)⟩
variable {ops : Array Oper} {Q : Exit → Act → World → Prop} {l : List Oper}
end
end Go.Proofs.YtagoikglbifhmaaGreatDoor
namespace Go.Proofs.YtagoikglbifhmaaGreatDoor
open Go.RowKit
section
variable {P : Program} {cx : Cx} {T : TL} {B : BL} {R : RL} {ops : Array Oper} {Q : Exit → Act → World → Prop} {deps : List (List Nat)}
def depsOf (ops : Array Oper) : List (List Nat) := ops.toList.map fun o => (o.after.toList.filter fun e => Region.binds .any e).map (·.on)
def readyC (L : List Bool) : Nat → List (List Nat) → List Nat
  | _, [] => []
  | i, d :: ds => bif !(L.getD i true) && d.all (fun j => L.getD j false) then i :: readyC L (i + 1) ds else readyC L (i + 1) ds
theorem mem_readyC {L : List Bool} : ∀ {ds : List (List Nat)} {k i : Nat}, i ∈ readyC L k ds ↔ k ≤ i ∧ L.getD i true = false ∧ ∃ d, ds[i - k]? = some d ∧ d.all (fun j => L.getD j false) = true
  | [], k, i => by simp [readyC]
  | d :: ds, k, i => by
    have ih := mem_readyC (L := L) (ds := ds) (k := k + 1) (i := i)
    have key : i ∈ readyC L k (d :: ds) ↔ (i = k ∧ L.getD k true = false ∧ d.all (fun j => L.getD j false) = true) ∨ i ∈ readyC L (k + 1) ds := by
      rw [show readyC L k (d :: ds) = bif !(L.getD k true) && d.all (fun j => L.getD j false) then k :: readyC L (k + 1) ds else readyC L (k + 1) ds from rfl]
      cases h : (!(L.getD k true) && d.all (fun j => L.getD j false)) with
      | true =>
        simp only [Bool.and_eq_true, Bool.not_eq_true'] at h
        simp only [cond_true, List.mem_cons]
        exact ⟨fun h' => h'.imp (fun e => ⟨e, h.1, h.2⟩) id, fun h' => h'.imp (fun e => e.1) id⟩
      | false =>
        simp only [cond_false]
        refine ⟨.inr, fun h' => h'.resolve_left fun e => ?_⟩
        rw [e.2.1, e.2.2] at h
        cases h
    rw [key, ih]
    constructor
    · rintro (⟨rfl, h1, h2⟩ | ⟨h1, h2, d', h3, h4⟩)
      · exact ⟨Nat.le_refl _, h1, d, by simp, h2⟩
      · refine ⟨by omega, h2, d', ?_, h4⟩
        rw [show i - k = (i - (k + 1)) + 1 by omega, List.getElem?_cons_succ]
        exact h3
    · rintro ⟨h1, h2, d', h3, h4⟩
      by_cases e : i = k
      · subst e
        rw [Nat.sub_self, List.getElem?_cons_zero] at h3
        obtain rfl := Option.some.inj h3
        exact .inl ⟨rfl, h2, h4⟩
      · rw [show i - k = (i - (k + 1)) + 1 by omega, List.getElem?_cons_succ] at h3
        exact .inr ⟨by omega, h2, d', h3, h4⟩
theorem ready_readyC {L : List Bool} (hd : depsOf ops = deps) {i : Nat} : i ∈ Region.ready .any ops L.toArray ↔ i ∈ readyC L 0 deps := by
  have hg : ∀ (j : Nat) (b : Bool), L.toArray.getD j b = L.getD j b := fun j b => by simp [List.getD_eq_getElem?_getD]
  rw [mem_ready, mem_readyC, ← hd]
  simp only [hg, Nat.zero_le, true_and, Nat.sub_zero, depsOf, List.getElem?_map, Array.getElem?_toList]
  constructor
  · rintro ⟨h1, o, ho, h2⟩
    refine ⟨h1, _, by rw [ho]; rfl, ?_⟩
    rw [List.all_eq_true]
    intro j hj
    obtain ⟨e, he, rfl⟩ := List.mem_map.1 hj
    obtain ⟨he1, he2⟩ := List.mem_filter.1 he
    exact h2 e (Array.mem_toList_iff.1 he1) he2
  · rintro ⟨h1, d, h2, h3⟩
    cases ho : ops[i]? with
    | none => rw [ho] at h2; cases h2
    | some o =>
      rw [ho] at h2
      obtain rfl := Option.some.inj h2
      refine ⟨h1, o, rfl, fun e he hb => ?_⟩
      exact List.all_eq_true.1 h3 _ (List.mem_map.2 ⟨e, List.mem_filter.2 ⟨Array.mem_toList_iff.2 he, hb⟩, rfl⟩)
theorem e_draw_any {id : Nat} {l : List Oper} (n : Nat) (L : List Bool) (deps : List (List Nat)) (hd : depsOf l.toArray = deps) (hn : l.toArray.size = n) (hm : P.follows .mixedOrders = true) (hL : List.replicate n false = L) (h : depsOf l.toArray = deps → E cx T B R (wpAny P .any l.toArray Q n L.toArray)) : E cx T B R ((Code.region id l.toArray true).wp P Q) := fun M V a w hr => by
  have hr1 : Rel cx T B R M V a w.drew := ⟨hr.size, hr.defers, hr.heap.step (Below.refl _ _).drew, fun t x hx => (hr.tmp t x hx).stay (hr.heap.keeps (Below.refl _ _).drew) fun _ hg => hg.mono (Nat.le_refl _)⟩
  refine wp_region_any hm ?_
  rw [hn, ← List.toArray_replicate, hL]
  exact h hd M V a w.drew hr1
def AnyE (P : Program) (cx : Cx) (T : TL) (B : BL) (R : RL) (ops : Array Oper) (Q : Exit → Act → World → Prop) (fuel : Nat) (L : List Bool) : List Nat → Prop
  | [] => True
  | i :: is => E cx T B R (wpOp P ops Q i (wpAny P .any ops Q fuel (L.set i true).toArray)) ∧ AnyE P cx T B R ops Q fuel L is
theorem AnyE.get {fuel : Nat} {L : List Bool} : ∀ {is : List Nat} (_ : AnyE P cx T B R ops Q fuel L is) {i : Nat}, i ∈ is → E cx T B R (wpOp P ops Q i (wpAny P .any ops Q fuel (L.set i true).toArray))
  | j :: is, h, i, hi => by
    rcases List.mem_cons.1 hi with rfl | hi
    · exact h.1
    · exact AnyE.get h.2 hi
  | [], _, _, hi => by cases hi
theorem e_any {fuel : Nat} {L : List Bool} (hd : depsOf ops = deps) (hne : (readyC L 0 deps).isEmpty = false) (h : AnyE P cx T B R ops Q fuel L (readyC L 0 deps)) : E cx T B R (wpAny P .any ops Q (fuel + 1) L.toArray) := fun M V a w hrel => by
  refine ⟨fun e => ?_, fun i hi => ?_⟩
  · cases hl : readyC L 0 deps with
    | nil => rw [hl] at hne; cases hne
    | cons i is =>
      have : i ∈ Region.ready .any ops L.toArray := (ready_readyC hd).2 (by rw [hl]; exact List.mem_cons_self)
      rw [e] at this
      cases this
  · have := AnyE.get h ((ready_readyC hd).1 hi)
    rw [List.setIfInBounds_toArray]
    exact this M V a w hrel
theorem e_any0 {L : List Bool} (hd : depsOf ops = deps) (hr : (readyC L 0 deps).isEmpty = true) (h : E cx T B R (Q .normal)) : E cx T B R (wpAny P .any ops Q 0 L.toArray) := fun M V a w hrel => by
  refine ⟨?_, h M V a w hrel⟩
  cases hl : Region.ready .any ops L.toArray with
  | nil => rfl
  | cons i is =>
    have : i ∈ readyC L 0 deps := (ready_readyC hd).1 (by rw [hl]; exact List.mem_cons_self)
    cases hl2 : readyC L 0 deps with
    | nil => rw [hl2] at this; cases this
    | cons j js => rw [hl2] at hr; cases hr
theorem e_opi {i : Nat} {o : Oper} {K : Act → World → Prop} (ho : ops[i]? = some o) (hl : LetsOut (Exit.then K Q) → LetsOut Q) (h : E cx T B R (wpList P ops (Exit.then K Q) [o])) : E cx T B R (wpOp P ops Q i K) := fun M V a w hrel => op_of_list ho hl (h M V a w hrel)
end
end Go.Proofs.YtagoikglbifhmaaGreatDoor
namespace Go.Proofs.YtagoikglbifhmaaGreatDoor
open Go.RowKit
def pickT (L : List Bool) : List (Nat × Nat × IV) → TL
  | [] => []
  | (i, s, y) :: es => bif L.getD i false then (s, y) :: pickT L es else pickT L es
def pickS (L : List Bool) : List Nat → List (Nat × Nat × Bx) → BL
  | _, [] => []
  | sn, (i, s, y) :: es => bif L.getD i false && !(sn.any fun c => Nat.beq c s) then (s, y) :: pickS L (s :: sn) es else pickS L sn es
def pickB (L : List Bool) (es : List (Nat × Nat × Bx)) : BL := pickS L [] es
def dagB (deps : List (List Nat)) (L0 full : List Bool) (reach : List (List Bool)) (steps : List (List Bool × Nat)) : Bool :=
  reach.contains L0 && reach.all fun L => bif L == full then (readyC L 0 deps).isEmpty && (L.count false == 0) else
    !(readyC L 0 deps).isEmpty && (readyC L 0 deps).all fun i => steps.contains (L, i) && reach.contains (L.set i true) && ((L.set i true).count false + 1 == L.count false)
section
variable {P : Program} {cx : Cx} {T0 : TL} {B0 : BL} {R : RL} {ops : Array Oper} {Q : Exit → Act → World → Prop} {deps : List (List Nat)} {es : List (Nat × Nat × IV)} {bs : List (Nat × Nat × Bx)}
def AllSteps (P : Program) (cx : Cx) (T0 : TL) (B0 : BL) (R : RL) (ops : Array Oper) (Q : Exit → Act → World → Prop) (es : List (Nat × Nat × IV)) (bs : List (Nat × Nat × Bx)) : List (List Bool × Nat) → Prop
  | [] => True
  | (L, i) :: r => (∀ K, E cx (T0 ++ pickT (L.set i true) es) (pickB (L.set i true) bs ++ B0) R K → E cx (T0 ++ pickT L es) (pickB L bs ++ B0) R (wpOp P ops Q i K)) ∧ AllSteps P cx T0 B0 R ops Q es bs r
theorem AllSteps.get : ∀ {st : List (List Bool × Nat)} (_ : AllSteps P cx T0 B0 R ops Q es bs st) {L : List Bool} {i : Nat}, (L, i) ∈ st → ∀ K, E cx (T0 ++ pickT (L.set i true) es) (pickB (L.set i true) bs ++ B0) R K → E cx (T0 ++ pickT L es) (pickB L bs ++ B0) R (wpOp P ops Q i K)
  | (L', j) :: r, h, L, i, hm => by
    rcases List.mem_cons.1 hm with e | hm
    · injection e with e1 e2
      subst e1 e2
      exact h.1
    · exact AllSteps.get h.2 hm
  | [], _, _, _, hm => by cases hm
theorem AnyE.of {T : TL} {B : BL} {fuel : Nat} {L : List Bool} : ∀ {is : List Nat}, (∀ i ∈ is, E cx T B R (wpOp P ops Q i (wpAny P .any ops Q fuel (L.set i true).toArray))) → AnyE P cx T B R ops Q fuel L is
  | [], _ => trivial
  | i :: is, h => ⟨h i List.mem_cons_self, AnyE.of fun j hj => h j (List.mem_cons_of_mem _ hj)⟩
theorem e_states {L0 full : List Bool} {reach : List (List Bool)} {steps : List (List Bool × Nat)} (hd : depsOf ops = deps) (hB : dagB deps L0 full reach steps = true) (hs : AllSteps P cx T0 B0 R ops Q es bs steps) (hend : E cx (T0 ++ pickT full es) (pickB full bs ++ B0) R (Q .normal)) :
    ∀ (m : Nat) (L : List Bool), L.count false = m → L ∈ reach → E cx (T0 ++ pickT L es) (pickB L bs ++ B0) R (wpAny P .any ops Q m L.toArray) := by
  simp only [dagB, Bool.and_eq_true] at hB
  have hall := List.all_eq_true.1 hB.2
  intro m
  induction m with
  | zero =>
    intro L hm hL
    have h := hall L hL
    cases hf : (L == full) with
    | true =>
      rw [hf] at h
      simp only [cond_true, Bool.and_eq_true] at h
      rw [beq_iff_eq] at hf
      subst hf
      exact e_any0 hd h.1 hend
    | false =>
      rw [hf] at h
      simp only [cond_false, Bool.and_eq_true] at h
      cases hr : readyC L 0 deps with
      | nil => rw [hr] at h; exact absurd h.1 (by decide)
      | cons i is =>
        have h2 := List.all_eq_true.1 h.2 i (by rw [hr]; exact List.mem_cons_self)
        simp only [Bool.and_eq_true, beq_iff_eq] at h2
        omega
  | succ m ih =>
    intro L hm hL
    have h := hall L hL
    cases hf : (L == full) with
    | true =>
      rw [hf] at h
      simp only [cond_true, Bool.and_eq_true, beq_iff_eq] at h
      omega
    | false =>
      rw [hf] at h
      simp only [cond_false, Bool.and_eq_true, Bool.not_eq_true'] at h
      refine e_any hd h.1 (AnyE.of fun i hi => ?_)
      have h2 := List.all_eq_true.1 h.2 i hi
      simp only [Bool.and_eq_true, beq_iff_eq, List.contains_iff_mem] at h2
      exact hs.get h2.1.1 _ (ih _ (by omega) h2.1.2)
theorem e_subK {T T' : TL} {B B' : BL} {K : Act → World → Prop} (hK : E cx T' B' [] K) (hT : SubT T T') (hB : SubB B B') : E cx T B [] K := e_sub (R' := []) hT hB trivial hK
theorem e_draw_st {id : Nat} {l : List Oper} (n : Nat) (deps : List (List Nat)) (reach : List (List Bool)) (steps : List (List Bool × Nat)) (es : List (Nat × Nat × IV)) (bs : List (Nat × Nat × Bx)) {T : TL} {B : BL} (T0 : TL) (B0 : BL) (hd : depsOf l.toArray = deps) (hn : l.toArray.size = n) (hm : P.follows .mixedOrders = true) (hB : dagB deps (List.replicate n false) (List.replicate n true) reach steps = true) (hc : (List.replicate n false).count false = n)
    (h0 : ∀ K, E cx (T0 ++ pickT (List.replicate n false) es) (pickB (List.replicate n false) bs ++ B0) R K → E cx T B R K) (hs : AllSteps P cx T0 B0 R l.toArray Q es bs steps) (hend : E cx (T0 ++ pickT (List.replicate n true) es) (pickB (List.replicate n true) bs ++ B0) R (Q .normal)) : E cx T B R ((Code.region id l.toArray true).wp P Q) := by
  refine e_draw_any n _ deps hd hn hm rfl fun _ => h0 _ ?_
  refine e_states hd hB hs hend n _ hc ?_
  simp only [dagB, Bool.and_eq_true, List.contains_iff_mem] at hB
  exact hB.1
end
end Go.Proofs.YtagoikglbifhmaaGreatDoor
