/- Part 15 of what the last text of this claim is proved by: walks over the program, and the math behind them. Conditions: as each theorem says. -/
import Derived.Test.YtagoikglbifhmaaGreatDoorPB14
import Derived.Test.YtagoikglbifhmaaGreatDoorProg
import Derived.ChangeMaps5
import Derived.Carry
import Derived.Laws.Slices
import Derived.Laws.StructEq
import Derived.Laws.IdiomStrings
import Derived.Laws.Entries
namespace Go.Proofs.YtagoikglbifhmaaGreatDoor
open Go.RowKit
def PRight (v : Vl) : Prop := EF Tryz.prog [] 9 [.many (vd v)] (.part (tP (vright v)))
set_option maxRecDepth 100000 in
theorem fright_ef (f : Int × Vl) (hr : PRight f.2) : EF Tryz.prog [] 27 [.many (fd f)] (.part (tP (fok f))) := by
  refine ef_enter 17 Tryz.func27 rfl rfl rfl fun w D => ?_
  try refine e_fl ?_
  refine e_list ?_
  refine e_box 1 rfl rfl rfl rfl (kn rfl) rfl rfl rfl rfl ?_
  refine l_as ?_
  refine e_nil ?_
  try refine e_fl ?_
  refine e_plain (w_op rfl rfl rfl (s_faddr_box rfl (kn rfl) off_66_0) (w_op rfl rfl rfl (s_load1_box rfl (kn rfl) rfl rfl one_3) (w_op rfl rfl rfl (s_call rfl (by kernel_rfl) (fieldNumber_ef f.1) ⟨(kn rfl), trivial⟩) (w_mv rfl rfl rfl rfl rfl (Walk.gd _ rfl rfl rfl (fun h => s_faddr_box rfl (kn rfl) off_66_1) (Walk.gd _ rfl rfl rfl (fun h => s_faddr_box rfl (kn_opt rfl h) off_27_0) (Walk.gd _ rfl rfl rfl (fun h => s_load1_box rfl (kn_opt rfl h) rfl rfl one_3) (Walk.gd _ rfl rfl rfl (fun h => s_bin rfl (kn_opt rfl h) (kn rfl) v_neq) (w_op rfl rfl rfl (s_and rfl (kn rfl) (fun hb => kn_opt rfl hb)) (w_mv rfl rfl rfl rfl rfl (Walk.gd _ rfl rfl rfl (fun h => s_faddr_box rfl (kn rfl) off_66_1) (Walk.gd _ rfl rfl rfl (fun h => s_loadn_box (ds := [_, _, _, _, _, _, _]) 7 rfl (kn_opt rfl h) rfl rfl agg_27 sz_27 rfl) (Walk.gd _ rfl rfl rfl (fun h => s_call rfl (by kernel_rfl) (hr) ⟨(kn_opt rfl h), trivial⟩) (w_op rfl rfl rfl (s_and rfl (kn rfl) (fun hb => kn_opt rfl hb)) (w_as rfl rfl rfl rfl rfl .nil))))))))))))))) ?_
  try refine e_fl ?_
  exact e_return rfl rfl (.tmp (kn rfl) (.nil)) (tP_eq rfl) rfl
set_option maxRecDepth 100000 in
theorem single_ef (x : Vl) (hr : PRight x) : EF Tryz.prog [] 31 [.many (vd x)] (.part (tP (vsing x))) := by
  refine ef_enter 15 Tryz.func31 rfl rfl rfl fun w D => ?_
  try refine e_fl ?_
  refine e_list ?_
  refine e_box 1 rfl rfl rfl rfl (kn rfl) rfl rfl rfl rfl ?_
  refine l_as ?_
  refine e_nil ?_
  try refine e_fl ?_
  refine e_plain (w_op rfl rfl rfl (s_faddr_box rfl (kn rfl) off_27_0) (w_op rfl rfl rfl (s_load1_box rfl (kn rfl) rfl rfl one_3) (w_op rfl rfl rfl (s_bin rfl (kn rfl) (kn rfl) v_geq) (w_mv rfl rfl rfl rfl rfl (Walk.gd _ rfl rfl rfl (fun h => s_faddr_box rfl (kn rfl) off_27_0) (Walk.gd _ rfl rfl rfl (fun h => s_load1_box rfl (kn_opt rfl h) rfl rfl one_3) (Walk.gd _ rfl rfl rfl (fun h => s_bin rfl (kn_opt rfl h) (kn rfl) v_leq) (w_op rfl rfl rfl (s_and rfl (kn rfl) (fun hb => kn_opt rfl hb)) (w_mv rfl rfl rfl rfl rfl (Walk.gd _ rfl rfl rfl (fun h => s_loadn_box (ds := [_, _, _, _, _, _, _]) 7 rfl (kn rfl) rfl rfl agg_27 sz_27 rfl) (Walk.gd _ rfl rfl rfl (fun h => s_call rfl (by kernel_rfl) (hr) ⟨(kn_opt rfl h), trivial⟩) (w_op rfl rfl rfl (s_and rfl (kn rfl) (fun hb => kn_opt rfl hb)) (w_as rfl rfl rfl rfl rfl .nil))))))))))))) ?_
  try refine e_fl ?_
  exact e_return rfl rfl (.tmp (kn rfl) (.nil)) (tP_eq rfl) rfl
set_option maxRecDepth 100000 in
theorem pairright_ef (p : Vl × Vl) (h1 : PRight p.1) (h2 : PRight p.2) : EF Tryz.prog [] 53 [.many (pd p)] (.part (tP (vright p.1 && vsing p.2))) := by
  refine ef_enter 11 Tryz.func53 rfl rfl rfl fun w D => ?_
  try refine e_fl ?_
  refine e_list ?_
  refine e_box 1 rfl rfl rfl rfl (kn rfl) rfl rfl rfl rfl ?_
  refine l_as ?_
  refine e_nil ?_
  try refine e_fl ?_
  refine e_plain (w_op rfl rfl rfl (s_faddr_box rfl (kn rfl) off_82_0) (w_op rfl rfl rfl (s_loadn_box (ds := [_, _, _, _, _, _, _]) 7 rfl (kn rfl) rfl rfl agg_27 sz_27 rfl) (w_op rfl rfl rfl (s_call rfl (by kernel_rfl) (h1) ⟨(kn rfl), trivial⟩) (w_mv rfl rfl rfl rfl rfl (Walk.gd _ rfl rfl rfl (fun h => s_faddr_box rfl (kn rfl) off_82_1) (Walk.gd _ rfl rfl rfl (fun h => s_loadn_box (ds := [_, _, _, _, _, _, _]) 7 rfl (kn_opt rfl h) rfl rfl agg_27 sz_27 rfl) (Walk.gd _ rfl rfl rfl (fun h => s_call rfl (by kernel_rfl) (single_ef p.2 h2) ⟨(kn_opt rfl h), trivial⟩) (w_op rfl rfl rfl (s_and rfl (kn rfl) (fun hb => kn_opt rfl hb)) (w_as rfl rfl rfl rfl rfl .nil))))))))) ?_
  try refine e_fl ?_
  exact e_return rfl rfl (.tmp (kn rfl) (.nil)) (tP_eq rfl) rfl
set_option maxRecDepth 100000 in
theorem cloK_eg (z : Int) (p : Vl × Vl) (h1 : PRight p.1) (h2 : PRight p.2) : EG Tryz.prog [] 52 [.part (.many (pd p)), .box 3 0] (kB z) [] (YB z (pok z p)) := by
  refine eg_enter 13 Tryz.func52 rfl rfl rfl fun w D bor mb => ?_
  try refine e_fl ?_
  refine e_list ?_
  refine e_box 2 rfl rfl rfl rfl (kn rfl) rfl rfl rfl rfl ?_
  refine l_as ?_
  refine e_nil ?_
  try refine e_fl ?_
  refine e_plain (w_op rfl rfl rfl (s_faddr_box rfl (kn rfl) off_82_0) (w_op rfl rfl rfl (s_faddr_box rfl (kn rfl) off_27_0) (w_op rfl rfl rfl (s_load1_box rfl (kn rfl) rfl rfl one_3) (w_op rfl rfl rfl (s_load1_box rfl (kn rfl) rfl rfl one_3) (w_op rfl rfl rfl (s_bin rfl (kn rfl) (kn rfl) v_eql) (w_mv rfl rfl rfl rfl rfl (Walk.gd _ rfl rfl rfl (fun h => s_loadn_box (ds := [_, _, _, _, _, _, _, _, _, _, _, _, _, _]) 14 rfl (kn rfl) rfl rfl agg_82 sz_82 rfl) (Walk.gd _ rfl rfl rfl (fun h => s_call rfl (by kernel_rfl) (pairright_ef p h1 h2) ⟨(kn_opt rfl h), trivial⟩) (w_op rfl rfl rfl (s_and rfl (kn rfl) (fun hb => kn_opt rfl hb)) (w_as rfl rfl rfl rfl rfl .nil)))))))))) ?_
  try refine e_fl ?_
  exact e_returnx (kB z) ([]) rfl (.tmp (kn rfl) (.nil)) (Imp.refl _) ⟨s_b, trivial⟩ trivial (⟨rfl, rfl, rfl⟩)
set_option maxRecDepth 100000 in
theorem pairsRight_ef (v : Vl) (hs : Short v) (hv : v.pairs ≠ []) (hp : ∀ p ∈ v.pairs, PRight p.1 ∧ PRight p.2) : EF Tryz.prog [] 32 [.many (vd v)] (.part (tP (prights v.pairs))) := by
  obtain ⟨p0, hp0⟩ : ∃ p0, v.pairs[0]? = some p0 := ⟨_, List.getElem?_eq_getElem (List.length_pos_iff.2 hv)⟩
  have e : prights v.pairs = ((decide (p0.1.kind = 1) || decide (p0.1.kind = 2)) && (v.pairs.all (pok p0.1.kind) && grises pkeyc v.pairs)) := by
    revert hp0
    cases v.pairs with
    | nil => intro h; cases h
    | cons q ps =>
      intro h
      obtain rfl : q = p0 := by simpa using h
      rfl
  have hlen := (short_len hs).2.2
  refine ef_enter 25 Tryz.func32 rfl rfl rfl fun w D => ?_
  try refine e_fl ?_
  refine e_list ?_
  refine e_box 1 rfl rfl rfl rfl (kn rfl) rfl rfl rfl rfl ?_
  refine l_as ?_
  refine e_nil ?_
  try refine e_fl ?_
  refine e_list ?_
  refine l_op (s_faddr_box rfl (kn rfl) off_27_6) ?_
  refine l_op (s_load1_box rfl (kn rfl) rfl rfl one_25) ?_
  refine l_op (s_index rfl (kn rfl) (kn rfl) (by omega) hp0 pairDats_len sle_25 esz_25 (pairDats_vd p0)) ?_
  refine l_op (s_faddr_ref rfl (kn rfl) off_82_0) ?_
  refine l_op (s_faddr_ref rfl (kn rfl) off_27_0) ?_
  refine l_op (s_load1_ref rfl (kn rfl) one_3) ?_
  refine e_alloc 3 [.is (.int .i64 0)] rfl rfl rfl rfl zr_3 (fun w D M V => ⟨rfl, fun j x v h1 h2 => cfit_is _ h1 h2 rfl⟩) rfl rfl rfl rfl ?_
  refine e_store1 rfl rfl rfl (kn rfl) rfl (kn rfl) rfl rfl sz_3 rfl ?_
  refine e_nil ?_
  try refine e_fl ?_
  refine e_plain (w_op rfl rfl rfl (s_load1_box rfl (kn rfl) rfl rfl one_3) (w_op rfl rfl rfl (s_bin rfl (kn rfl) (kn rfl) v_neq) (w_mv rfl rfl rfl rfl rfl (Walk.gd _ rfl rfl rfl (fun h => s_load1_box rfl (kn rfl) rfl rfl one_3) (Walk.gd _ rfl rfl rfl (fun h => s_bin rfl (kn_opt rfl h) (kn rfl) v_neq) (w_op rfl rfl rfl (s_and rfl (kn rfl) (fun hb => kn_opt rfl hb)) .nil)))))) ?_
  try refine e_fl ?_
  refine e_cond rfl (fun h1 => ?_) (fun h1 => ?_)
  · have e2 : prights v.pairs = false := by
      rw [e]
      have h2 : ¬ p0.1.kind = 1 ∧ ¬ p0.1.kind = 2 := by simpa using h1
      rw [decide_eq_false h2.1, decide_eq_false h2.2]
      rfl
    try refine e_fl ?_
    refine e_plain (w_as rfl rfl rfl rfl rfl .nil) ?_
    try refine e_fl ?_
    exact e_return rfl rfl (.tmp (kn rfl) (.nil)) (tP_eq e2.symm) rfl
  have e2 : prights v.pairs = (v.pairs.all (pok p0.1.kind) && grises pkeyc v.pairs) := by
    have h2 : p0.1.kind = 1 ∨ p0.1.kind = 2 := by
      rcases Decidable.em (p0.1.kind = 1) with h | h
      · exact .inl h
      · refine .inr ?_
        have h3 : ¬ p0.1.kind = 1 → p0.1.kind = 2 := by simpa using h1
        exact h3 h
    rw [e]
    rcases h2 with h2 | h2 <;> rw [h2] <;> rfl
  try refine e_fl ?_
  refine e_list ?_
  refine l_op (s_faddr_box rfl (kn rfl) off_27_6) ?_
  refine l_op (s_load1_box rfl (kn rfl) rfl rfl one_25) ?_
  refine l_op (s_func (fs := []) (cs := [.box 3 0]) rfl trivial ⟨(kn rfl), trivial⟩) ?_
  refine e_calli rfl rfl rfl rfl (by kernel_rfl) (all_pairs_eg p0.1.kind v.pairs hlen (pok p0.1.kind) (fun x hx => cloK_eg p0.1.kind x (hp x hx).1 (hp x hx).2)) ⟨rfl, trivial⟩ trivial ⟨(kn rfl), ⟨(kn rfl), trivial⟩⟩ (YB.tidy) ?_
  rintro _ _ _ ⟨rfl, rfl, rfl⟩
  refine l_mv ?_
  refine e_list_gd rfl rfl rfl (fun h => s_faddr_box rfl (kn rfl) off_27_6) ?_
  refine e_list_gd rfl rfl rfl (fun h => s_load1_box rfl (kn_opt rfl h) rfl rfl one_25) ?_
  refine e_list_gd rfl rfl rfl (fun h => s_call rfl (by kernel_rfl) (rises_pairs_ef 55 (by kernel_rfl) v.pairs hlen pkeyc (fun x hx y hy => byKey_ef x y (vcompare_ef x.1 (short_pair hs hx).1 y.1 (short_pair hs hy).1))) ⟨(kn_opt rfl h), ⟨(kn rfl), trivial⟩⟩) ?_
  refine l_op (s_and rfl (kn rfl) (fun hb => kn_opt rfl hb)) ?_
  refine l_as ?_
  refine e_nil ?_
  try refine e_fl ?_
  exact e_return rfl rfl (.tmp (kn rfl) (.nil)) (tP_eq e2.symm) rfl
set_option maxRecDepth 100000 in
set_option maxHeartbeats 1000000 in
theorem prightv_step (v : Vl) (hs : Short v) (hf : ∀ f ∈ v.fields, PRight f.2) (hl : ∀ x ∈ v.list, PRight x) (hp : ∀ p ∈ v.pairs, PRight p.1 ∧ PRight p.2) : PRight v := by
  unfold PRight
  rw [vright_prog]
  obtain ⟨a1, a2, a3⟩ := short_len hs
  refine ef_enter 43 Tryz.func9 rfl rfl rfl fun w D => ?_
  try refine e_fl ?_
  refine e_list ?_
  refine e_box 1 rfl rfl rfl rfl (kn rfl) rfl rfl rfl rfl ?_
  refine l_as ?_
  refine e_nil ?_
  try refine e_fl ?_
  refine e_plain (w_op rfl rfl rfl (s_loadn_box (ds := [_, _, _, _, _, _, _]) 7 rfl (kn rfl) rfl rfl agg_27 sz_27 rfl) (w_op rfl rfl rfl (s_call rfl (by kernel_rfl) (bare_ef v) ⟨(kn rfl), trivial⟩) (w_op rfl rfl rfl (s_not rfl (kn rfl)) .nil))) ?_
  try refine e_fl ?_
  refine e_cond rfl (fun h => ?_) (fun h => ?_)
  · have e : vrightP v = false := by
      unfold vrightP
      rw [show vbare v = false by simpa using h]
      rfl
    try refine e_fl ?_
    refine e_plain (w_as rfl rfl rfl rfl rfl .nil) ?_
    try refine e_fl ?_
    exact e_return rfl rfl (.tmp (kn rfl) (.nil)) (tP_eq e.symm) rfl
  have e : vrightP v = (if v.kind = 0 ∨ v.kind = 1 ∨ v.kind = 2 then true else if v.kind = 3 then v.fields.all fok && grises fnumc v.fields else if v.kind = 4 then decide (v.list ≠ []) && v.list.all vsing else if v.kind = 5 then prights v.pairs else false) := by
    unfold vrightP
    rw [show vbare v = true by simpa using h]
    exact Bool.true_and _
  clear h
  try refine e_fl ?_
  refine e_plain (w_op rfl rfl rfl (s_faddr_box rfl (kn rfl) off_27_0) (w_op rfl rfl rfl (s_load1_box rfl (kn rfl) rfl rfl one_3) .nil)) ?_
  try refine e_fl ?_
  try refine e_fl ?_
  refine e_plain (w_op rfl rfl rfl (s_bin rfl (kn rfl) (kn rfl) v_eql) (w_as rfl rfl rfl rfl rfl .nil)) ?_
  try refine e_fl ?_
  refine e_cond rfl (fun q0 => ?_) (fun q0 => ?_)
  · try refine e_fl ?_
    refine e_cond rfl (fun _ => ?_) (fun h => absurd (h.symm.trans q0) (by decide))
    try refine e_fl ?_
    refine e_plain (w_as rfl rfl rfl rfl rfl .nil) ?_
    try refine e_fl ?_
    exact e_return rfl rfl (.tmp (kn rfl) (.nil)) (tP_eq (by rw [e]; exact (if_pos (.inl (of_decide_eq_true q0))).symm)) rfl
  try refine e_fl ?_
  refine e_plain (w_op rfl rfl rfl (s_bin rfl (kn rfl) (kn rfl) v_eql) (w_as rfl rfl rfl rfl rfl .nil)) ?_
  try refine e_fl ?_
  refine e_cond rfl (fun q1 => ?_) (fun q1 => ?_)
  · try refine e_fl ?_
    refine e_cond rfl (fun _ => ?_) (fun h => absurd (h.symm.trans q1) (by decide))
    try refine e_fl ?_
    refine e_plain (w_as rfl rfl rfl rfl rfl .nil) ?_
    try refine e_fl ?_
    exact e_return rfl rfl (.tmp (kn rfl) (.nil)) (tP_eq (by rw [e]; exact (if_pos (.inr (.inl (of_decide_eq_true q1)))).symm)) rfl
  try refine e_fl ?_
  refine e_plain (w_op rfl rfl rfl (s_bin rfl (kn rfl) (kn rfl) v_eql) (w_as rfl rfl rfl rfl rfl .nil)) ?_
  try refine e_fl ?_
  try refine e_fl ?_
  refine e_cond rfl (fun q2 => ?_) (fun q2 => ?_)
  · try refine e_fl ?_
    refine e_plain (w_as rfl rfl rfl rfl rfl .nil) ?_
    try refine e_fl ?_
    exact e_return rfl rfl (.tmp (kn rfl) (.nil)) (tP_eq (by rw [e]; exact (if_pos (.inr (.inr (of_decide_eq_true q2)))).symm)) rfl
  have n0 := of_decide_eq_false q0
  have n1 := of_decide_eq_false q1
  have n2 := of_decide_eq_false q2
  rw [if_neg (by omega)] at e
  try refine e_fl ?_
  refine e_plain (w_op rfl rfl rfl (s_bin rfl (kn rfl) (kn rfl) v_eql) (w_as rfl rfl rfl rfl rfl .nil)) ?_
  try refine e_fl ?_
  refine e_cond rfl (fun q3 => ?_) (fun q3 => ?_)
  · rw [if_pos (of_decide_eq_true q3)] at e
    try refine e_fl ?_
    refine e_plain (w_op rfl rfl rfl (s_faddr_box rfl (kn rfl) off_27_3) (w_op rfl rfl rfl (s_load1_box rfl (kn rfl) rfl rfl one_23) (w_op rfl rfl rfl (s_call rfl (by kernel_rfl) (all_fields_ef 27 (by kernel_rfl) v.fields a1 fok (fun x hx => fright_ef x (hf x hx))) ⟨(kn rfl), ⟨(kn rfl), trivial⟩⟩) (w_mv rfl rfl rfl rfl rfl (Walk.gd _ rfl rfl rfl (fun h => s_faddr_box rfl (kn rfl) off_27_3) (Walk.gd _ rfl rfl rfl (fun h => s_load1_box rfl (kn_opt rfl h) rfl rfl one_23) (Walk.gd _ rfl rfl rfl (fun h => s_call rfl (by kernel_rfl) (rises_fields_ef 29 (by kernel_rfl) v.fields a1 fnumc (fun x _ y _ => byNumber_ef x y)) ⟨(kn_opt rfl h), ⟨(kn rfl), trivial⟩⟩) (w_op rfl rfl rfl (s_and rfl (kn rfl) (fun hb => kn_opt rfl hb)) (w_as rfl rfl rfl rfl rfl .nil))))))))) ?_
    try refine e_fl ?_
    exact e_return rfl rfl (.tmp (kn rfl) (.nil)) (tP_eq e.symm) rfl
  rw [if_neg (of_decide_eq_false q3)] at e
  try refine e_fl ?_
  refine e_plain (w_op rfl rfl rfl (s_bin rfl (kn rfl) (kn rfl) v_eql) (w_as rfl rfl rfl rfl rfl .nil)) ?_
  try refine e_fl ?_
  refine e_cond rfl (fun q4 => ?_) (fun q4 => ?_)
  · rw [if_pos (of_decide_eq_true q4)] at e
    try refine e_fl ?_
    refine e_plain (w_op rfl rfl rfl (s_faddr_box rfl (kn rfl) off_27_5) (w_op rfl rfl rfl (s_load1_box rfl (kn rfl) rfl rfl one_24) (w_op rfl rfl rfl (s_len rfl (kn rfl) sle_24) (w_op rfl rfl rfl (s_bin rfl (kn rfl) (kn rfl) v_gtr) (w_mv rfl rfl rfl rfl rfl (Walk.gd _ rfl rfl rfl (fun h => s_faddr_box rfl (kn rfl) off_27_5) (Walk.gd _ rfl rfl rfl (fun h => s_load1_box rfl (kn_opt rfl h) rfl rfl one_24) (Walk.gd _ rfl rfl rfl (fun h => s_call rfl (by kernel_rfl) (all_list_ef 31 (by kernel_rfl) v.list a2 vsing (fun x hx => single_ef x (hl x hx))) ⟨(kn_opt rfl h), ⟨(kn rfl), trivial⟩⟩) (w_op rfl rfl rfl (s_and rfl (kn rfl) (fun hb => kn_opt rfl hb)) (w_as rfl rfl rfl rfl rfl .nil)))))))))) ?_
    try refine e_fl ?_
    exact e_return rfl rfl (.tmp (kn rfl) (.nil)) (tP_eq (by rw [e]; simp [Nat.pos_iff_ne_zero])) rfl
  rw [if_neg (of_decide_eq_false q4)] at e
  try refine e_fl ?_
  refine e_plain (w_op rfl rfl rfl (s_bin rfl (kn rfl) (kn rfl) v_eql) (w_as rfl rfl rfl rfl rfl .nil)) ?_
  try refine e_fl ?_
  refine e_cond rfl (fun q5 => ?_) (fun q5 => ?_)
  · rw [if_pos (of_decide_eq_true q5)] at e
    try refine e_fl ?_
    refine e_plain (w_op rfl rfl rfl (s_faddr_box rfl (kn rfl) off_27_6) (w_op rfl rfl rfl (s_load1_box rfl (kn rfl) rfl rfl one_25) (w_op rfl rfl rfl (s_len rfl (kn rfl) sle_25) (w_op rfl rfl rfl (s_bin rfl (kn rfl) (kn rfl) v_gtr) (w_mv rfl rfl rfl rfl rfl (Walk.gd _ rfl rfl rfl (fun h => s_loadn_box (ds := [_, _, _, _, _, _, _]) 7 rfl (kn rfl) rfl rfl agg_27 sz_27 rfl) (Walk.gd _ rfl rfl rfl (fun h => s_call rfl (by kernel_rfl) (pairsRight_ef v hs (List.length_pos_iff.1 (by have := of_decide_eq_true h; omega)) hp) ⟨(kn_opt rfl h), trivial⟩) (w_op rfl rfl rfl (s_and rfl (kn rfl) (fun hb => kn_opt rfl hb)) (w_as rfl rfl rfl rfl rfl .nil))))))))) ?_
    try refine e_fl ?_
    exact e_return rfl rfl (.tmp (kn rfl) (.nil)) (tP_eq (by rw [e]; cases hv : v.pairs <;> simp [prights])) rfl
  rw [if_neg (of_decide_eq_false q5)] at e
  try refine e_fl ?_
  refine e_plain (w_as rfl rfl rfl rfl rfl .nil) ?_
  try refine e_fl ?_
  exact e_return rfl rfl (.tmp (kn rfl) (.nil)) (tP_eq e.symm) rfl
theorem vright_ef (v : Vl) (hv : Short v) : PRight v := by
  revert hv
  exact Vl.parts (P := fun a => Short a → PRight a) (fun v hf hl hp ha => prightv_step v ha (fun f h => hf f h (short_field ha h)) (fun x h => hl x h (short_elem ha h)) (fun p h => ⟨(hp p h).1 (short_pair ha h).1, (hp p h).2 (short_pair ha h).2⟩)) v
end Go.Proofs.YtagoikglbifhmaaGreatDoor
namespace Go.Proofs.YtagoikglbifhmaaGreatDoor
open Go.RowKit
section
variable {P : Program} {cx : Cx} {T : TL} {B : BL} {R : RL} {o : Oper}
variable {α : Type}
def MEs (w : World) (D : Nat → Prop) (kf : α → Value) : List (α × Dat) → List MapEntry → Prop
  | [], [] => True
  | p :: ps, e :: es => e.key = kf p.1 ∧ Lies w D p.2 e.val ∧ MEs w D kf ps es
  | _, _ => False
variable {w w' : World} {D D' : Nat → Prop} {kf : α → Value}
theorem MEs.length : ∀ {ps : List (α × Dat)} {es : List MapEntry}, MEs w D kf ps es → es.length = ps.length
  | [], [], _ => rfl
  | _ :: _, _ :: _, h => by simp [MEs.length h.2.2]
  | [], _ :: _, h => h.elim
  | _ :: _, [], h => h.elim
theorem MEs.stay (hk : Keeps D w w') (hD : ∀ g, D g → D' g) : ∀ {ps : List (α × Dat)} {es : List MapEntry}, MEs w D kf ps es → MEs w' D' kf ps es
  | [], [], _ => trivial
  | _ :: _, _ :: _, h => ⟨h.1, h.2.1.stay hk hD, MEs.stay hk hD h.2.2⟩
  | [], _ :: _, h => h.elim
  | _ :: _, [], h => h.elim
variable [DecidableEq α]
end
end Go.Proofs.YtagoikglbifhmaaGreatDoor
namespace Go.Proofs.YtagoikglbifhmaaGreatDoor
open Go.RowKit
section
variable {P : Program} {cx : Cx} {T : TL} {B : BL} {R : RL} {o : Oper}
theorem add_none (b o k : Nat) : (⟨b, o, none⟩ : Addr).add k = ⟨b, o + k, none⟩ := by unfold Addr.add; split <;> simp_all
end
end Go.Proofs.YtagoikglbifhmaaGreatDoor
namespace Go.Proofs.YtagoikglbifhmaaGreatDoor
open Go.RowKit
theorem Imp.ptr_ref (t : TypeId) (ds : List Dat) : Imp (.part (.one (.ptr t ds))) (.ref ds) := fun w D M V v h => by
  have h' : Lies w D (.ptr t ds) v := h
  cases h' with
  | ptr b t ds xs hD hb hl hx => exact ⟨b, 0, rfl, hD, xs, ⟨hl, fun j d x h1 h2 => hx j d x h1 h2⟩, fun j x hj => by rw [Nat.zero_add, hb.cell]; exact hj⟩
section
variable {P : Program} {cx : Cx} {T : TL} {B : BL} {R : RL} {o : Oper}
theorem s_iaddr_ref {x i : Operand} {t : TypeId} {k : Nat} {ds : List Dat} {kk : IntKind} {z : Int} (ho : o.op = .indexAddr t x i) (hx : Kn T x (.ref ds)) (hi : Kn T i (.is (.int kk z))) (hz : 0 ≤ z ∧ z < (P.arrayLen t : Int)) (ht : P.underlying t = some (.array (P.arrayLen t) (P.elem t))) (hs : sizeT P (P.elem t) = some k) :
    LStep P cx B R o T (.ref (ds.drop (z.toNat * k))) := LStep.same fun M V w a hh hk => by
  obtain ⟨b, f, h1, hD, xs, hf, hc⟩ := hk x _ (by simp [ho, Op.operands]) hx
  have h2 := (hk i _ (by simp [ho, Op.operands]) hi).is_eq
  have h7 := run_indexAt_array (P := P) w t ⟨b, f, none⟩ kk z ht
  rw [if_pos ⟨hz.1, hz.2⟩, run_sizeT hs, Result.andThen_ok, add_none] at h7
  refine ⟨_, by simp [execOp, ho, h1, h2, h7], b, f + z.toNat * k, rfl, hD, xs.drop (z.toNat * k), ⟨by simp [hf.1], fun j d x hd hx => ?_⟩, fun j x hx => ?_⟩
  · rw [List.getElem?_drop] at hd hx
    exact hf.2 _ d x hd hx
  · rw [List.getElem?_drop] at hx
    have := hc _ x hx
    rw [← this]
    congr 2
    omega
def shD (R : RL) : IV → Option Dat
  | .part (.one d) => some d
  | .own r => (lk r R).map datOf
  | _ => none
def shows (R : RL) : List IV → Option (List Dat)
  | [] => some []
  | x :: l => match shD R x, shows R l with | some d, some ds => some (d :: ds) | _, _ => none
theorem shows_len : ∀ {l : List IV} {ds : List Dat}, shows R l = some ds → l.length = ds.length
  | [], ds, h => by
    obtain rfl := Option.some.inj h
    rfl
  | x :: l, ds, h => by
    unfold shows at h
    split at h
    · rename_i h2
      obtain rfl := Option.some.inj h
      simp [shows_len h2]
    · cases h
theorem shows_get : ∀ {l : List IV} {ds : List Dat} (_ : shows R l = some ds) {j : Nat} {x : IV} {d : Dat}, l[j]? = some x → ds[j]? = some d → shD R x = some d
  | [], ds, h, j, x, d, hx, hd => by simp at hx
  | y :: l, ds, h, j, x, d, hx, hd => by
    unfold shows at h
    split at h
    · rename_i h1 h2
      obtain rfl := Option.some.inj h
      cases j with
      | zero =>
        obtain rfl : y = x := by simpa using hx
        obtain rfl : _ = d := by simpa using hd
        exact h1
      | succ j => exact shows_get h2 (j := j) (by simpa using hx) (by simpa using hd)
    · cases h
theorem shows_data (ds : List Dat) : shows R (bcs ds) = some ds := by
  induction ds with
  | nil => rfl
  | cons d ds ih =>
    show shows R (.part (.one d) :: bcs ds) = _
    unfold shows
    rw [ih]
    rfl
def Far (y y' : IV) : Prop := ∀ (w : World) (D : Nat → Prop) (M : Nat → Nat) (V : Nat → Value) (w' : World) (D' : Nat → Prop) (M' : Nat → Nat) (V' : Nat → Value) (v : Value), VR w D M V y v → VR w' D' M' V' y' v
theorem Far.is (v : Value) : Far (.is v) (.is v) := fun w D M V w' D' M' V' u h => by
  obtain rfl := VR.is_eq h
  exact .cell _
def LenV (n : Nat) (_ v : Value) : Prop := ∃ p c, v = .slice p n c
theorem Far.row (r k n : Nat) (ds : List Dat) : Far (.part (.one (.row k n ds))) (.via r (LenV n)) := fun w D M V w' D' M' V' u h => by
  obtain ⟨p, c, h1⟩ := row_shape h
  exact ⟨p, c, h1⟩
theorem Gx.dat {w : World} {D D' : Nat → Prop} {base : Nat} {x : Rw} {v : Value} (h : Gx w D base x.ty x.k v x.n x.ds) (hD : ∀ g, D g → D' g) (hv : ∀ g, obk v = some g → D' g) : Lies w D' (datOf x) v := by
  have hk := Keeps.refl D w
  rcases hty : Nat.blt x.ty 1000000 with _ | _
  · rw [datOf_map hty]
    obtain ⟨xs, ⟨h3, _⟩ | ⟨_, g, es, c, e1, _, e2, e3, e4⟩, h5⟩ := h
    · rw [hty] at h3; cases h3
    · rw [e1]
      exact .map g x.n es c x.ds xs (hv g (by rw [e1]; rfl)) e2 e3 e4 h5.1 fun j d y a b => (h5.2 j d y a b).stay hk hD
  · rw [datOf_row hty]
    have h3 := h.row hty
    refine h3.lies hD fun g hg => hv g ?_
    obtain ⟨xs, a2, _⟩ := h3
    exact (obk_row a2).trans hg
theorem s_show {f : FuncId} {x : Operand} {xs : List Operand} {ts : Array TypeId} {b : Nat} {bx : Bx} {ds : List Dat} {ps : List Part} {y y' : IV} (ho : o.op = .call { callee := .value (.func f), args := (x :: xs).toArray, argTypes := ts }) (hc : callable P f = true) (hf : EF P cx.gl f (.one (.ptr bx.ty ds) :: ps) y) (hx : Kn T x (.box b 0)) (hb : lk b B = some bx) (hm : shows R bx.cs = some ds) (hxs : KnA T xs ps) (hy : Far y y') : LStep P cx B R o T y' := fun M V w a hh ht => by
  have hkk : ∀ y z, y ∈ x :: xs → Kn T y z → VR w (Dc cx B R M V w) M V z (a.eval y) := fun y z hm hkx => hkx w _ M V a fun t z' e hz => ht t z' (by
    subst e
    rw [ho]
    simpa [Op.operands, Call.operands] using hm) hz
  have hrun : (execOp a.eval o).run P w = .ok (.enter f ((x :: xs).map a.eval).toArray) w := by
    have he : a.eval (.func f) = .func (.func f) #[] #[] := rfl
    simp [execOp, ho, resolve, he, Deferred.ofValue, invoke, run_callable hc]
  rw [hrun]
  have hxv : a.eval x = .pointer (some ⟨M b, 0, none⟩) := hkk x _ (by simp) hx
  obtain ⟨hown, cells, hblk, hfit⟩ := hh.box b bx hb
  have hlt := hblk.lt
  have hD : ∀ g, Dc cx B R M V w g → g < w.heap.size := fun g hg => hh.dlt hg
  have hps : PsFit w (Dc cx B R M V w) ps (xs.map a.eval) := hxs.fit fun y z hm hkx => hkk y z (by simp [hm]) hkx
  let D' : Nat → Prop := fun g => Dc cx B R M V w g ∨ g = M b ∨ ∃ r x, lk r R = some x ∧ x.fz = false ∧ obk (V r) = some g
  have hk := Keeps.refl (Dc cx B R M V w) w
  have hDD : ∀ g, Dc cx B R M V w g → D' g := fun g h => .inl h
  have hD' : ∀ g, D' g → g < w.heap.size := fun g hg => by
    rcases (show Dc cx B R M V w g ∨ g = M b ∨ ∃ r x, lk r R = some x ∧ x.fz = false ∧ obk (V r) = some g from hg) with hg | rfl | ⟨r, x, h1, h2, h3⟩
    · exact hD g hg
    · exact hlt
    · have h4 := hh.row r x h1
      rw [h2] at h4
      obtain ⟨zs, h5, _⟩ : Gx w (Dc cx B R M V w) 0 x.ty x.k (V r) x.n x.ds := h4
      exact (h5.lt g h3).2
  have hcell : ∀ (j : Nat) d u, ds[j]? = some d → cells[j]? = some u → Lies w D' d u := fun j d u hd hu => by
    have hlen := shows_len hm
    have hj : j < bx.cs.length := by
      rw [hlen]
      rcases Nat.lt_or_ge j ds.length with h | h
      · exact h
      · rw [List.getElem?_eq_none h] at hd; cases hd
    have hxj := List.getElem?_eq_getElem hj
    have h1 := shows_get hm hxj hd
    have h2 := (hfit.2 j _ u hxj hu).1
    generalize bx.cs[j] = q at h1 h2
    cases q with
    | part p =>
      cases p with
      | one e =>
        obtain rfl := Option.some.inj h1
        exact Lies.stay h2 hk hDD
      | many es => cases h1
    | own r =>
      have h3 : u = V r := h2
      subst h3
      cases hr : lk r R with
      | none => simp [shD, hr] at h1
      | some y =>
        have : datOf y = d := by simpa [shD, hr] using h1
        subst this
        have h4 := hh.row r y hr
        cases hfz : y.fz with
        | true =>
          rw [if_pos hfz] at h4
          exact h4.stay hk hDD
        | false =>
          rw [hfz] at h4
          exact Gx.dat (show Gx w (Dc cx B R M V w) 0 y.ty y.k (V r) y.n y.ds from h4) hDD fun g hg => .inr (.inr ⟨r, y, hr, hfz, hg⟩)
    | _ => cases h1
  have hp0 : PFit w D' (.one (.ptr bx.ty ds)) (a.eval x) := by
    rw [hxv]
    exact .ptr (M b) bx.ty ds cells (.inr (.inl rfl)) hblk ((shows_len hm).symm.trans hfit.1) hcell
  refine ⟨rfl, (hf w D' (a.eval x :: xs.map a.eval) hD' hh.glok ⟨hp0, hps.stay hk hDD⟩).mono fun e w' ⟨v, y0, h1, h2, h3, h4⟩ => ?_⟩
  subst h2
  exact ⟨v, h1, h3, hy _ _ _ _ _ _ _ _ _ (h4 M V)⟩
variable {ops : Array Oper} {Q : Exit → Act → World → Prop} {l : List Oper}
end
end Go.Proofs.YtagoikglbifhmaaGreatDoor
namespace Go.Proofs.YtagoikglbifhmaaGreatDoor
open Go.RowKit
section
variable {P : Program} {cx : Cx} {T : TL} {B : BL} {R : RL} {ops : Array Oper} {Q : Exit → Act → World → Prop} {deps : List (List Nat)}
def AnyE (P : Program) (cx : Cx) (T : TL) (B : BL) (R : RL) (ops : Array Oper) (Q : Exit → Act → World → Prop) (fuel : Nat) (L : List Bool) : List Nat → Prop
  | [] => True
  | i :: is => E cx T B R (wpOp P ops Q i (wpAny P .any ops Q fuel (L.set i true).toArray)) ∧ AnyE P cx T B R ops Q fuel L is
theorem AnyE.get {fuel : Nat} {L : List Bool} : ∀ {is : List Nat} (_ : AnyE P cx T B R ops Q fuel L is) {i : Nat}, i ∈ is → E cx T B R (wpOp P ops Q i (wpAny P .any ops Q fuel (L.set i true).toArray))
  | j :: is, h, i, hi => by
    rcases List.mem_cons.1 hi with rfl | hi
    · exact h.1
    · exact AnyE.get h.2 hi
  | [], _, _, hi => by cases hi
end
end Go.Proofs.YtagoikglbifhmaaGreatDoor
namespace Go.Proofs.YtagoikglbifhmaaGreatDoor
open Go.RowKit
def pickT (L : List Bool) : List (Nat × Nat × IV) → TL
  | [] => []
  | (i, s, y) :: es => bif L.getD i false then (s, y) :: pickT L es else pickT L es
def pickS (L : List Bool) : List Nat → List (Nat × Nat × Bx) → BL
  | _, [] => []
  | sn, (i, s, y) :: es => bif L.getD i false && !(sn.any fun c => Nat.beq c s) then (s, y) :: pickS L (s :: sn) es else pickS L sn es
def pickB (L : List Bool) (es : List (Nat × Nat × Bx)) : BL := pickS L [] es
section
variable {P : Program} {cx : Cx} {T0 : TL} {B0 : BL} {R : RL} {ops : Array Oper} {Q : Exit → Act → World → Prop} {deps : List (List Nat)} {es : List (Nat × Nat × IV)} {bs : List (Nat × Nat × Bx)}
def AllSteps (P : Program) (cx : Cx) (T0 : TL) (B0 : BL) (R : RL) (ops : Array Oper) (Q : Exit → Act → World → Prop) (es : List (Nat × Nat × IV)) (bs : List (Nat × Nat × Bx)) : List (List Bool × Nat) → Prop
  | [] => True
  | (L, i) :: r => (∀ K, E cx (T0 ++ pickT (L.set i true) es) (pickB (L.set i true) bs ++ B0) R K → E cx (T0 ++ pickT L es) (pickB L bs ++ B0) R (wpOp P ops Q i K)) ∧ AllSteps P cx T0 B0 R ops Q es bs r
theorem AllSteps.get : ∀ {st : List (List Bool × Nat)} (_ : AllSteps P cx T0 B0 R ops Q es bs st) {L : List Bool} {i : Nat}, (L, i) ∈ st → ∀ K, E cx (T0 ++ pickT (L.set i true) es) (pickB (L.set i true) bs ++ B0) R K → E cx (T0 ++ pickT L es) (pickB L bs ++ B0) R (wpOp P ops Q i K)
  | (L', j) :: r, h, L, i, hm => by
    rcases List.mem_cons.1 hm with e | hm
    · injection e with e1 e2
      subst e1 e2
      exact h.1
    · exact AllSteps.get h.2 hm
  | [], _, _, _, hm => by cases hm
theorem AnyE.of {T : TL} {B : BL} {fuel : Nat} {L : List Bool} : ∀ {is : List Nat}, (∀ i ∈ is, E cx T B R (wpOp P ops Q i (wpAny P .any ops Q fuel (L.set i true).toArray))) → AnyE P cx T B R ops Q fuel L is
  | [], _ => trivial
  | i :: is, h => ⟨h i List.mem_cons_self, AnyE.of fun j hj => h j (List.mem_cons_of_mem _ hj)⟩
end
end Go.Proofs.YtagoikglbifhmaaGreatDoor
namespace Go.Proofs.YtagoikglbifhmaaGreatDoor
open Go.RowKit
section
variable {P : Program}
variable {cx : Cx} {T : TL} {B : BL} {R : RL} {M : Nat → Nat} {V : Nat → Value} {o : Oper}
theorem kn_imp {x : Operand} {y z : IV} (h : Kn T x y) (hi : Imp y z) : Kn T x z := fun w D M V a hT => hi w D M V _ (h w D M V a hT)
theorem s_iaddr_refx {x i : Operand} {t : TypeId} {k : Nat} {ds es : List Dat} {kk : IntKind} {z : Int} (ho : o.op = .indexAddr t x i) (hx : Kn T x (.ref ds)) (hi : Kn T i (.is (.int kk z))) (hz : 0 ≤ z ∧ z < (P.arrayLen t : Int)) (ht : P.underlying t = some (.array (P.arrayLen t) (P.elem t))) (hs : sizeT P (P.elem t) = some k) (he : ds.drop (z.toNat * k) = es) :
    LStep P cx B R o T (.ref es) := he ▸ s_iaddr_ref ho hx hi hz ht hs
variable {α : Type} {kf : α → Value} [DecidableEq α]
end
def pickA {α : Type} (L : List Bool) : List Nat → List (Nat × Nat × α) → List (Nat × α)
  | _, [] => []
  | sn, (i, s, y) :: es => bif L.getD i false && !(sn.any fun c => Nat.beq c s) then (s, y) :: pickA L (s :: sn) es else pickA L sn es
section
variable {P : Program} {cx : Cx} {T0 : TL} {B0 : BL} {R0 : RL} {ops : Array Oper} {Q : Exit → Act → World → Prop} {deps : List (List Nat)} {es : List (Nat × Nat × IV)} {bs : List (Nat × Nat × Bx)} {rs : List (Nat × Nat × Rw)}
def AllStepsR (P : Program) (cx : Cx) (T0 : TL) (B0 : BL) (R0 : RL) (ops : Array Oper) (Q : Exit → Act → World → Prop) (es : List (Nat × Nat × IV)) (bs : List (Nat × Nat × Bx)) (rs : List (Nat × Nat × Rw)) : List (List Bool × Nat) → Prop
  | [] => True
  | (L, i) :: r => (∀ K, E cx (T0 ++ pickA (L.set i true) [] es) (pickA (L.set i true) [] bs ++ B0) (pickA (L.set i true) [] rs ++ R0) K → E cx (T0 ++ pickA L [] es) (pickA L [] bs ++ B0) (pickA L [] rs ++ R0) (wpOp P ops Q i K)) ∧ AllStepsR P cx T0 B0 R0 ops Q es bs rs r
theorem AllStepsR.get : ∀ {st : List (List Bool × Nat)} (_ : AllStepsR P cx T0 B0 R0 ops Q es bs rs st) {L : List Bool} {i : Nat}, (L, i) ∈ st → ∀ K, E cx (T0 ++ pickA (L.set i true) [] es) (pickA (L.set i true) [] bs ++ B0) (pickA (L.set i true) [] rs ++ R0) K → E cx (T0 ++ pickA L [] es) (pickA L [] bs ++ B0) (pickA L [] rs ++ R0) (wpOp P ops Q i K)
  | (L', j) :: r, h, L, i, hm => by
    rcases List.mem_cons.1 hm with e | hm
    · injection e with e1 e2
      subst e1 e2
      exact h.1
    · exact AllStepsR.get h.2 hm
  | [], _, _, _, hm => by cases hm
end
end Go.Proofs.YtagoikglbifhmaaGreatDoor
namespace Go.Proofs.YtagoikglbifhmaaGreatDoor
open Go.RowKit
inductive Alike3 (P : Program) (t : TypeId) : Value → Value → Prop where
  | int (k k' : IntKind) (a b : Int) (h : P.underlying t = some (.int k')) : Alike3 P t (.int k a) (.int k b)
  | str (a b : List UInt8) (h : P.underlying t = some .string) : Alike3 P t (.string (str a)) (.string (str b))
  | bool (a b : Bool) (h : P.underlying t = some .bool) : Alike3 P t (.bool a) (.bool b)
theorem Alike3.plain {P : Program} {t : TypeId} {a b : Value} (h : Alike3 P t a b) : (P.underlying t = some .string ∨ P.underlying t = some .bool) ∨ ∃ k, P.underlying t = some (.int k) := by
  cases h with
  | int k k' a b hu => exact .inr ⟨k', hu⟩
  | str a b hu => exact .inl (.inl hu)
  | bool a b hu => exact .inl (.inr hu)
section
variable {P : Program} {cx : Cx} {T : TL} {B : BL} {R : RL} {o : Oper}
end
end Go.Proofs.YtagoikglbifhmaaGreatDoor
namespace Go.Proofs.YtagoikglbifhmaaGreatDoor
open Go.RowKit
theorem psfit_cells {w : World} {D : Nat → Prop} : ∀ {vs us : List Value}, PsFit w D (vs.map fun v => .one (.cell v)) us → us = vs
  | [], [], _ => rfl
  | v :: vs, u :: us, h => by
    obtain rfl := Lies.cell_eq h.1
    rw [psfit_cells h.2]
  | [], _ :: _, h => h.elim
  | _ :: _, [], h => h.elim
theorem psfit_self (w : World) (D : Nat → Prop) : ∀ vs : List Value, PsFit w D (vs.map fun v => .one (.cell v)) vs
  | [] => trivial
  | v :: vs => ⟨.cell v, psfit_self w D vs⟩
theorem efx_cells {P : Program} {gls : List (Nat × List Value)} {f : FuncId} (vs : List Value) {Y : IV → Prop}
    (h : ∀ w, GlOK gls w → Calls P f vs.toArray w fun e w' => Below w.heap.size w w' ∧ ((∃ v, Y (.is v) ∧ e = .returned v) ∨ ∃ rs : List Value, Y (.tup (rs.map fun v => .one (.cell v))) ∧ e = .returned (.tuple rs.toArray))) : EFx P gls f (vs.map fun v => .one (.cell v)) Y := fun w D us hD hG hp => by
  obtain rfl := psfit_cells hp
  refine (h w hG).mono fun e w' ⟨hb, hr⟩ => ?_
  rcases hr with ⟨v, hy, he⟩ | ⟨rs, hy, he⟩
  · exact ⟨v, _, he, hy, hb, fun M V => .cell v⟩
  · exact ⟨_, _, he, hy, hb, fun M V => ⟨rs, rfl, psfit_self _ _ rs⟩⟩
theorem ef_cell {P : Program} {gls : List (Nat × List Value)} {f : FuncId} (vs : List Value) (r : Value)
    (h : ∀ w, GlOK gls w → Calls P f vs.toArray w fun e w' => e = .returned r ∧ Below w.heap.size w w') : EF P gls f (vs.map fun v => .one (.cell v)) (.is r) :=
  efx_cells vs fun w hG => (h w hG).mono fun e w' ⟨h1, h2⟩ => ⟨h2, .inl ⟨r, rfl, h1⟩⟩
section
variable {P : Program} {cx : Cx} {T : TL} {B : BL} {R : RL} {o : Oper}
theorem v_shl4 {t : TypeId} {m : Int} : BinV P .shl t (.int .i64 m) (.int .u64 4) (.int .i64 (IntKind.i64.wrap (m * 2 ^ 4))) := fun _ _ w => by
  simp only [eqGuard_shl, binOp_shl]
  rw [Sem.run_bind, Sem.run_pure, Result.andThen_ok, shift_shl .i64 .u64 m 4 (by decide) (by decide)]
  rfl
theorem v_shr4 {t : TypeId} {m : Int} : BinV P .shr t (.int .u8 m) (.int .u64 4) (.int .u8 (m / 16)) := fun _ _ w => by
  simp only [eqGuard_shr, binOp_shr]
  rw [Sem.run_bind, Sem.run_pure, Result.andThen_ok, shift_shr .u8 .u64 m 4 (by decide) (by decide)]
  rfl
theorem v_ork {t : TypeId} {k : IntKind} {m n : Int} : BinV P .or t (.int k m) (.int k n) (.int k (k.wrap ((BitVec.ofInt k.bits m ||| BitVec.ofInt k.bits n).toNat : Int))) := fun _ _ w => by
  simp only [eqGuard_or, binOp_or]
  rw [Sem.run_bind, Sem.run_pure, Result.andThen_ok]
  rfl
theorem v_andk {t : TypeId} {k : IntKind} {m n : Int} : BinV P .and t (.int k m) (.int k n) (.int k (k.wrap ((BitVec.ofInt k.bits m &&& BitVec.ofInt k.bits n).toNat : Int))) := fun _ _ w => by
  simp only [eqGuard_and, binOp_and]
  rw [Sem.run_bind, Sem.run_pure, Result.andThen_ok]
  rfl
theorem and15 : ∀ n : _root_.Fin 256, IntKind.u8.wrap ((BitVec.ofInt 8 (n.1 : Int) &&& BitVec.ofInt 8 15).toNat : Int) = ((n.1 % 16 : Nat) : Int) := by decide +kernel
theorem v_and15 {t : TypeId} {n : Nat} (h : n < 256) : BinV P .and t (.int .u8 (n : Int)) (.int .u8 15) (.int .u8 ((n % 16 : Nat) : Int)) := fun x y w => by
  have := v_andk (P := P) (t := t) (k := .u8) (m := (n : Int)) (n := 15) x y w
  rw [this]
  exact congrArg (fun z => Result.ok (Value.int .u8 z) w) (and15 ⟨n, h⟩)
theorem fits_cells_eq {w : World} {D : Nat → Prop} {cs xs : List Value} (h : Fits w D (cs.map .cell) xs) : xs = cs := by
  refine List.ext_getElem? fun j => ?_
  have hl : cs.length = xs.length := by simpa using h.1
  rcases Nat.lt_or_ge j cs.length with hj | hj
  · have h1 := h.2 j (.cell cs[j]) xs[j] (by rw [List.getElem?_map, List.getElem?_eq_getElem hj]; rfl) (List.getElem?_eq_getElem (by omega))
    rw [List.getElem?_eq_getElem hj, List.getElem?_eq_getElem (by omega), Lies.cell_eq h1]
  · rw [List.getElem?_eq_none hj, List.getElem?_eq_none (by omega)]
theorem s_ostr {x : Operand} {src dst e : TypeId} {r n : Nat} {ds : List Dat} {l : List UInt8} (ho : o.op = .convert src dst x) (hx : Kn T x (.own r)) (hr : lk r R = some ⟨e, 1, n, ds, false⟩) (hds : ds = l.map fun b => .cell (bv b)) (hs : P.underlying src = some (.slice e)) (he : P.underlying e = some (.int .u8)) (hd : P.underlying dst = some .string) (hty : Nat.blt e 1000000 = true := by rfl) :
    LStep P cx B R o T (.is (.string (str l))) := LStep.same fun M V w a hh hk => by
  have h1 : a.eval x = V r := hk x _ (by simp [ho, Op.operands]) hx
  have h2 : Gx w (Dc cx B R M V w) 0 e 1 (V r) n ds := hh.row r _ hr
  obtain ⟨xs, hown, hfit⟩ := h2.row hty
  rw [hds, show (l.map fun b => Dat.cell (bv b)) = (l.map bv).map Dat.cell by rw [List.map_map]; rfl] at hfit
  obtain rfl := fits_cells_eq hfit
  have hl : l.length = n := by simpa using hown.1
  refine ⟨.string (str l), ?_, .cell _⟩
  rcases hown.2 with ⟨hv, hn0⟩ | ⟨g, cap, cur, hv, _, _, _, _, _, _⟩
  · have hl0 : l = [] := List.length_eq_zero_iff.1 (by omega)
    subst hl0
    have h3 := run_convert_bytes_string (P := P) w src dst e none 0 0 hs he hd
    simp only [execOp, ho, h1, hv]
    rw [Sem.run_bind, h3]
    rfl
  · have hob : (V r).ownBlock = some g := by rw [hv]; rfl
    have h3 := run_convert_bytes_back (P := P) w src dst e ⟨g, 0, none⟩ cap l hs he hd fun j hj => hown.cells hob j _ (by rw [List.getElem?_map, List.getElem?_eq_getElem hj]; rfl)
    simp only [execOp, ho, h1, hv]
    rw [Sem.run_bind, ← hl, h3]
    rfl
theorem e_lit (r : Nat) {ops : Array Oper} {Q : Exit → Act → World → Prop} {l : List Oper} {d : Nat} {t e : TypeId} {len k : Nat} {parts : List (Nat × Operand)} (ps : List (Nat × Part)) {zs : List Value} {zd : List Dat} {cs : List Value} (hg : o.guard = none) (hd : o.dst = some d) (hn : Nat.blt d cx.n = true) (ho : o.op = .buildSlice t len parts.toArray) (hp : KnL T parts ps) (h1 : ps.all (·.2.isOne) = true) (ht : P.underlying t = some (.slice e)) (hs : sizeT P e = some k) (hz : zeroT P e = some zs) (hzd : ∀ w D, Fits w D zd (List.replicate len zs).flatten)
    (hzk : Nat.beq zs.length k = true) (hzl : Nat.blt 0 k = true) (hpos : Nat.blt 0 len = true) (hsm : Nat.ble (len * k) 16777216 = true) (hf : fillD (fun i => some (i * k, k)) zd ps = some (cs.map .cell))
    (hT : norT r T = true) (hB : norB r B = true) (hE : E cx ((d, .own r) :: T) B ((r, ⟨e, k, len, cs.map .cell, false⟩) :: R) (wpList P ops Q l)) (hty : Nat.blt e 1000000 = true := by rfl) : E cx T B R (wpList P ops Q (o :: l)) := fun M V a w hrel => by
  obtain rfl := Nat.eq_of_beq_eq_true hzk
  obtain ⟨hl, hgt⟩ := hp.get
  have hzl' : 0 < zs.length := by simpa using hzl
  have hpos' : 0 < len := by simpa using hpos
  have hsm' := Nat.le_of_ble_eq_true hsm
  cases hi : P.info? e with
  | none => simp [zeroT, hi] at hz
  | some it =>
    cases hzz : it.zero with
    | none => simp [zeroT, hi, hzz] at hz
    | some z =>
      have hzc : z.cells = zs.toArray := by
        have : z.cells.toList = zs := by simpa [zeroT, hi, hzz] using hz
        rw [← this]
      have hsz : it.size = zs.length := by simpa [sizeT, hi] using hs
      obtain ⟨out, ho1, ho2⟩ := fill_fit (w := w) (D := Dc cx B R M V w) (place := fun i => some (i * zs.length, zs.length)) (vs := parts.map fun x => (x.1, a.eval x.2)) (cells := (Array.range (len * zs.length)).map (zs.toArray[· % zs.toArray.size]!)) hf (by rw [zero_mod zs]; exact hzd _ _) (by simp [hl]) (fun j i p i' v hj hv => by
          rw [List.getElem?_map, Option.map_eq_some_iff] at hv
          obtain ⟨⟨i2, x⟩, hx1, hx2⟩ := hv
          obtain ⟨rfl, rfl⟩ : i2 = i' ∧ a.eval x = v := by simpa using hx2
          obtain ⟨e, hkx⟩ := hgt j i2 x i p hx1 hj
          have hpf : PFit _ _ p (a.eval x) := hkx w (Dc cx B R M V w) M V a fun t z' _ hz => hrel.tmp t z' hz
          refine ⟨e.symm, hpf, fun d hd => ?_⟩
          subst hd
          have := List.all_eq_true.1 h1 _ (List.mem_of_getElem? hj)
          exact Lies.one hpf this)
      have hrun := run_buildSlice (P := P) w t e len (parts.map fun x => (x.1, a.eval x.2)).toArray out it z ht hi hzz (by rw [hsz]; omega) (by rw [hsz]; exact Nat.ne_of_gt (Nat.mul_pos hpos' hzl')) (by rw [hsz, hzc]; simpa using ho1)
      have hb : Below w.heap.size w (w.alloc (.cells out e)) := (Below.refl _ _).alloc (Nat.le_refl _) _
      have hout : out.toList = cs := fits_cells_eq ho2
      have hlen : out.size = len * zs.length := by
        have := fillD_len hf
        have h2 := (hzd w (Dc cx B R M V w)).1
        have h3 : out.toList.length = cs.length := by rw [hout]
        rw [List.length_map] at this
        rw [Array.length_toList] at h3
        rw [h3, this, h2]
        simp
      have hmax : len ≤ maxLen := by
        have : len ≤ len * zs.length := Nat.le_mul_of_pos_right _ hzl'
        unfold maxLen
        omega
      have hown : (w.alloc (.cells out e)).ownsRow w.heap.size e zs.length (.slice (some ⟨w.heap.size, 0, none⟩) len len) len cs :=
        ⟨by rw [← hout, Array.length_toList, hlen], .inr ⟨w.heap.size, len, out, rfl, Nat.le_refl _, heap_alloc_new w _, Nat.le_refl _, hmax, hlen, by rw [← hout, List.take_of_length_le (by rw [Array.length_toList, hlen]; exact Nat.le_refl _)]⟩⟩
      obtain ⟨V', hVr, hr0⟩ := hrel.own_new hb hown r hT hB hty
      refine wpList_plain hg fun K hK => ?_
      have hex : (execOp a.eval o).run P w = .ok (.value (.slice (some ⟨w.heap.size, 0, none⟩) len len)) (w.alloc (.cells out e)) := by
        unfold execOp
        simp only [ho, List.map_toArray]
        rw [Sem.run_bind, hrun]
        rfl
      unfold Oper.wp
      rw [hex]
      simp only [Oper.upon, hd]
      refine hK _ _ ?_
      exact hE M V' _ _ (hr0.put (Below.refl _ _) (blt_lt hn) hVr.symm)
end
end Go.Proofs.YtagoikglbifhmaaGreatDoor
