/- Part 14 of what the last text of this claim is proved by: walks over the program, and the math behind them. Conditions: as each theorem says. -/
import Derived.Test.YtlikbiiimhfnkaaVO13
import Derived.Test.YtlikbiiimhfnkaaProg
namespace Go.Proofs.Ytlikbiiimhfnkaa
open Go.RowKit
def PRight (v : Vl) : Prop := EF Try.prog [] 10 [.many (vd v)] (.part (tP (vright v)))
set_option maxRecDepth 100000 in
theorem fright_ef (f : Int × Vl) (hr : PRight f.2) : EF Try.prog [] 33 [.many (fd f)] (.part (tP (fok f))) := by
  refine ef_enter 17 Try.func33 rfl rfl rfl fun w D => ?_
  try refine e_fl ?_
  refine e_list ?_
  refine e_box 1 rfl rfl rfl rfl (kn rfl) rfl rfl rfl rfl ?_
  refine l_as ?_
  refine e_nil ?_
  try refine e_fl ?_
  refine e_plain (w_op rfl rfl rfl (s_faddr_box rfl (kn rfl) off_58_0) (w_op rfl rfl rfl (s_load1_box rfl (kn rfl) rfl rfl one_3) (w_op rfl rfl rfl (s_call rfl (by kernel_rfl) (fieldNumber_ef f.1) ⟨(kn rfl), trivial⟩) (w_mv rfl rfl rfl rfl rfl (Walk.gd _ rfl rfl rfl (fun h => s_faddr_box rfl (kn rfl) off_58_1) (Walk.gd _ rfl rfl rfl (fun h => s_faddr_box rfl (kn_opt rfl h) off_27_0) (Walk.gd _ rfl rfl rfl (fun h => s_load1_box rfl (kn_opt rfl h) rfl rfl one_3) (Walk.gd _ rfl rfl rfl (fun h => s_bin rfl (kn_opt rfl h) (kn rfl) v_neq) (w_op rfl rfl rfl (s_and rfl (kn rfl) (fun hb => kn_opt rfl hb)) (w_mv rfl rfl rfl rfl rfl (Walk.gd _ rfl rfl rfl (fun h => s_faddr_box rfl (kn rfl) off_58_1) (Walk.gd _ rfl rfl rfl (fun h => s_loadn_box (ds := [_, _, _, _, _, _, _]) 7 rfl (kn_opt rfl h) rfl rfl agg_27 sz_27 rfl) (Walk.gd _ rfl rfl rfl (fun h => s_call rfl (by kernel_rfl) (hr) ⟨(kn_opt rfl h), trivial⟩) (w_op rfl rfl rfl (s_and rfl (kn rfl) (fun hb => kn_opt rfl hb)) (w_as rfl rfl rfl rfl rfl .nil))))))))))))))) ?_
  try refine e_fl ?_
  exact e_return rfl rfl (.tmp (kn rfl) (.nil)) (tP_eq rfl) rfl
set_option maxRecDepth 100000 in
theorem single_ef (x : Vl) (hr : PRight x) : EF Try.prog [] 37 [.many (vd x)] (.part (tP (vsing x))) := by
  refine ef_enter 15 Try.func37 rfl rfl rfl fun w D => ?_
  try refine e_fl ?_
  refine e_list ?_
  refine e_box 1 rfl rfl rfl rfl (kn rfl) rfl rfl rfl rfl ?_
  refine l_as ?_
  refine e_nil ?_
  try refine e_fl ?_
  refine e_plain (w_op rfl rfl rfl (s_faddr_box rfl (kn rfl) off_27_0) (w_op rfl rfl rfl (s_load1_box rfl (kn rfl) rfl rfl one_3) (w_op rfl rfl rfl (s_bin rfl (kn rfl) (kn rfl) v_geq) (w_mv rfl rfl rfl rfl rfl (Walk.gd _ rfl rfl rfl (fun h => s_faddr_box rfl (kn rfl) off_27_0) (Walk.gd _ rfl rfl rfl (fun h => s_load1_box rfl (kn_opt rfl h) rfl rfl one_3) (Walk.gd _ rfl rfl rfl (fun h => s_bin rfl (kn_opt rfl h) (kn rfl) v_leq) (w_op rfl rfl rfl (s_and rfl (kn rfl) (fun hb => kn_opt rfl hb)) (w_mv rfl rfl rfl rfl rfl (Walk.gd _ rfl rfl rfl (fun h => s_loadn_box (ds := [_, _, _, _, _, _, _]) 7 rfl (kn rfl) rfl rfl agg_27 sz_27 rfl) (Walk.gd _ rfl rfl rfl (fun h => s_call rfl (by kernel_rfl) (hr) ⟨(kn_opt rfl h), trivial⟩) (w_op rfl rfl rfl (s_and rfl (kn rfl) (fun hb => kn_opt rfl hb)) (w_as rfl rfl rfl rfl rfl .nil))))))))))))) ?_
  try refine e_fl ?_
  exact e_return rfl rfl (.tmp (kn rfl) (.nil)) (tP_eq rfl) rfl
set_option maxRecDepth 100000 in
theorem pairright_ef (p : Vl × Vl) (h1 : PRight p.1) (h2 : PRight p.2) : EF Try.prog [] 63 [.many (pd p)] (.part (tP (vright p.1 && vsing p.2))) := by
  refine ef_enter 11 Try.func63 rfl rfl rfl fun w D => ?_
  try refine e_fl ?_
  refine e_list ?_
  refine e_box 1 rfl rfl rfl rfl (kn rfl) rfl rfl rfl rfl ?_
  refine l_as ?_
  refine e_nil ?_
  try refine e_fl ?_
  refine e_plain (w_op rfl rfl rfl (s_faddr_box rfl (kn rfl) off_62_0) (w_op rfl rfl rfl (s_loadn_box (ds := [_, _, _, _, _, _, _]) 7 rfl (kn rfl) rfl rfl agg_27 sz_27 rfl) (w_op rfl rfl rfl (s_call rfl (by kernel_rfl) (h1) ⟨(kn rfl), trivial⟩) (w_mv rfl rfl rfl rfl rfl (Walk.gd _ rfl rfl rfl (fun h => s_faddr_box rfl (kn rfl) off_62_1) (Walk.gd _ rfl rfl rfl (fun h => s_loadn_box (ds := [_, _, _, _, _, _, _]) 7 rfl (kn_opt rfl h) rfl rfl agg_27 sz_27 rfl) (Walk.gd _ rfl rfl rfl (fun h => s_call rfl (by kernel_rfl) (single_ef p.2 h2) ⟨(kn_opt rfl h), trivial⟩) (w_op rfl rfl rfl (s_and rfl (kn rfl) (fun hb => kn_opt rfl hb)) (w_as rfl rfl rfl rfl rfl .nil))))))))) ?_
  try refine e_fl ?_
  exact e_return rfl rfl (.tmp (kn rfl) (.nil)) (tP_eq rfl) rfl
set_option maxRecDepth 100000 in
theorem cloK_eg (z : Int) (p : Vl × Vl) (h1 : PRight p.1) (h2 : PRight p.2) : EG Try.prog [] 62 [.part (.many (pd p)), .box 3 0] (kB z) [] (YB z (pok z p)) := by
  refine eg_enter 13 Try.func62 rfl rfl rfl fun w D bor mb => ?_
  try refine e_fl ?_
  refine e_list ?_
  refine e_box 2 rfl rfl rfl rfl (kn rfl) rfl rfl rfl rfl ?_
  refine l_as ?_
  refine e_nil ?_
  try refine e_fl ?_
  refine e_plain (w_op rfl rfl rfl (s_faddr_box rfl (kn rfl) off_62_0) (w_op rfl rfl rfl (s_faddr_box rfl (kn rfl) off_27_0) (w_op rfl rfl rfl (s_load1_box rfl (kn rfl) rfl rfl one_3) (w_op rfl rfl rfl (s_load1_box rfl (kn rfl) rfl rfl one_3) (w_op rfl rfl rfl (s_bin rfl (kn rfl) (kn rfl) v_eql) (w_mv rfl rfl rfl rfl rfl (Walk.gd _ rfl rfl rfl (fun h => s_loadn_box (ds := [_, _, _, _, _, _, _, _, _, _, _, _, _, _]) 14 rfl (kn rfl) rfl rfl agg_62 sz_62 rfl) (Walk.gd _ rfl rfl rfl (fun h => s_call rfl (by kernel_rfl) (pairright_ef p h1 h2) ⟨(kn_opt rfl h), trivial⟩) (w_op rfl rfl rfl (s_and rfl (kn rfl) (fun hb => kn_opt rfl hb)) (w_as rfl rfl rfl rfl rfl .nil)))))))))) ?_
  try refine e_fl ?_
  exact e_returnx (kB z) ([]) rfl (.tmp (kn rfl) (.nil)) (Imp.refl _) ⟨s_b, trivial⟩ trivial (⟨rfl, rfl, rfl⟩)
set_option maxRecDepth 100000 in
theorem pairsRight_ef (v : Vl) (hs : Short v) (hv : v.pairs ≠ []) (hp : ∀ p ∈ v.pairs, PRight p.1 ∧ PRight p.2) : EF Try.prog [] 38 [.many (vd v)] (.part (tP (prights v.pairs))) := by
  obtain ⟨p0, hp0⟩ : ∃ p0, v.pairs[0]? = some p0 := ⟨_, List.getElem?_eq_getElem (List.length_pos_iff.2 hv)⟩
  have e : prights v.pairs = ((decide (p0.1.kind = 1) || decide (p0.1.kind = 2)) && (v.pairs.all (pok p0.1.kind) && grises pkeyc v.pairs)) := by
    revert hp0
    cases v.pairs with
    | nil => intro h; cases h
    | cons q ps =>
      intro h
      obtain rfl : q = p0 := by simpa using h
      rfl
  have hlen := (short_len hs).2.2
  refine ef_enter 25 Try.func38 rfl rfl rfl fun w D => ?_
  try refine e_fl ?_
  refine e_list ?_
  refine e_box 1 rfl rfl rfl rfl (kn rfl) rfl rfl rfl rfl ?_
  refine l_as ?_
  refine e_nil ?_
  try refine e_fl ?_
  refine e_list ?_
  refine l_op (s_faddr_box rfl (kn rfl) off_27_6) ?_
  refine l_op (s_load1_box rfl (kn rfl) rfl rfl one_25) ?_
  refine l_op (s_index rfl (kn rfl) (kn rfl) (by omega) hp0 pairDats_len sle_25 esz_25 (pairDats_vd p0)) ?_
  refine l_op (s_faddr_ref rfl (kn rfl) off_62_0) ?_
  refine l_op (s_faddr_ref rfl (kn rfl) off_27_0) ?_
  refine l_op (s_load1_ref rfl (kn rfl) one_3) ?_
  refine e_alloc 3 [.is (.int .i64 0)] rfl rfl rfl rfl zr_3 (fun w D M V => ⟨rfl, fun j x v h1 h2 => cfit_is _ h1 h2 rfl⟩) rfl rfl rfl rfl ?_
  refine e_store1 rfl rfl rfl (kn rfl) rfl (kn rfl) rfl rfl sz_3 rfl ?_
  refine e_nil ?_
  try refine e_fl ?_
  refine e_plain (w_op rfl rfl rfl (s_load1_box rfl (kn rfl) rfl rfl one_3) (w_op rfl rfl rfl (s_bin rfl (kn rfl) (kn rfl) v_neq) (w_mv rfl rfl rfl rfl rfl (Walk.gd _ rfl rfl rfl (fun h => s_load1_box rfl (kn rfl) rfl rfl one_3) (Walk.gd _ rfl rfl rfl (fun h => s_bin rfl (kn_opt rfl h) (kn rfl) v_neq) (w_op rfl rfl rfl (s_and rfl (kn rfl) (fun hb => kn_opt rfl hb)) .nil)))))) ?_
  try refine e_fl ?_
  refine e_cond rfl (fun h1 => ?_) (fun h1 => ?_)
  · have e2 : prights v.pairs = false := by
      rw [e]
      have h2 : ¬ p0.1.kind = 1 ∧ ¬ p0.1.kind = 2 := by simpa using h1
      rw [decide_eq_false h2.1, decide_eq_false h2.2]
      rfl
    try refine e_fl ?_
    refine e_plain (w_as rfl rfl rfl rfl rfl .nil) ?_
    try refine e_fl ?_
    exact e_return rfl rfl (.tmp (kn rfl) (.nil)) (tP_eq e2.symm) rfl
  have e2 : prights v.pairs = (v.pairs.all (pok p0.1.kind) && grises pkeyc v.pairs) := by
    have h2 : p0.1.kind = 1 ∨ p0.1.kind = 2 := by
      rcases Decidable.em (p0.1.kind = 1) with h | h
      · exact .inl h
      · refine .inr ?_
        have h3 : ¬ p0.1.kind = 1 → p0.1.kind = 2 := by simpa using h1
        exact h3 h
    rw [e]
    rcases h2 with h2 | h2 <;> rw [h2] <;> rfl
  try refine e_fl ?_
  refine e_list ?_
  refine l_op (s_faddr_box rfl (kn rfl) off_27_6) ?_
  refine l_op (s_load1_box rfl (kn rfl) rfl rfl one_25) ?_
  refine l_op (s_func (fs := []) (cs := [.box 3 0]) rfl trivial ⟨(kn rfl), trivial⟩) ?_
  refine e_calli rfl rfl rfl rfl (by kernel_rfl) (all_pairs_eg p0.1.kind v.pairs hlen (pok p0.1.kind) (fun x hx => cloK_eg p0.1.kind x (hp x hx).1 (hp x hx).2)) ⟨rfl, trivial⟩ trivial ⟨(kn rfl), ⟨(kn rfl), trivial⟩⟩ (YB.tidy) ?_
  rintro _ _ _ ⟨rfl, rfl, rfl⟩
  refine l_mv ?_
  refine e_list_gd rfl rfl rfl (fun h => s_faddr_box rfl (kn rfl) off_27_6) ?_
  refine e_list_gd rfl rfl rfl (fun h => s_load1_box rfl (kn_opt rfl h) rfl rfl one_25) ?_
  refine e_list_gd rfl rfl rfl (fun h => s_call rfl (by kernel_rfl) (rises_pairs_ef 59 (by kernel_rfl) v.pairs hlen pkeyc (fun x hx y hy => byKey_ef x y (vcompare_ef x.1 (short_pair hs hx).1 y.1 (short_pair hs hy).1))) ⟨(kn_opt rfl h), ⟨(kn rfl), trivial⟩⟩) ?_
  refine l_op (s_and rfl (kn rfl) (fun hb => kn_opt rfl hb)) ?_
  refine l_as ?_
  refine e_nil ?_
  try refine e_fl ?_
  exact e_return rfl rfl (.tmp (kn rfl) (.nil)) (tP_eq e2.symm) rfl
set_option maxRecDepth 100000 in
set_option maxHeartbeats 1000000 in
theorem prightv_step (v : Vl) (hs : Short v) (hf : ∀ f ∈ v.fields, PRight f.2) (hl : ∀ x ∈ v.list, PRight x) (hp : ∀ p ∈ v.pairs, PRight p.1 ∧ PRight p.2) : PRight v := by
  unfold PRight
  rw [vright_prog]
  obtain ⟨a1, a2, a3⟩ := short_len hs
  refine ef_enter 43 Try.func10 rfl rfl rfl fun w D => ?_
  try refine e_fl ?_
  refine e_list ?_
  refine e_box 1 rfl rfl rfl rfl (kn rfl) rfl rfl rfl rfl ?_
  refine l_as ?_
  refine e_nil ?_
  try refine e_fl ?_
  refine e_plain (w_op rfl rfl rfl (s_loadn_box (ds := [_, _, _, _, _, _, _]) 7 rfl (kn rfl) rfl rfl agg_27 sz_27 rfl) (w_op rfl rfl rfl (s_call rfl (by kernel_rfl) (bare_ef v) ⟨(kn rfl), trivial⟩) (w_op rfl rfl rfl (s_not rfl (kn rfl)) .nil))) ?_
  try refine e_fl ?_
  refine e_cond rfl (fun h => ?_) (fun h => ?_)
  · have e : vrightP v = false := by
      unfold vrightP
      rw [show vbare v = false by simpa using h]
      rfl
    try refine e_fl ?_
    refine e_plain (w_as rfl rfl rfl rfl rfl .nil) ?_
    try refine e_fl ?_
    exact e_return rfl rfl (.tmp (kn rfl) (.nil)) (tP_eq e.symm) rfl
  have e : vrightP v = (if v.kind = 0 ∨ v.kind = 1 ∨ v.kind = 2 then true else if v.kind = 3 then v.fields.all fok && grises fnumc v.fields else if v.kind = 4 then decide (v.list ≠ []) && v.list.all vsing else if v.kind = 5 then prights v.pairs else false) := by
    unfold vrightP
    rw [show vbare v = true by simpa using h]
    exact Bool.true_and _
  clear h
  try refine e_fl ?_
  refine e_plain (w_op rfl rfl rfl (s_faddr_box rfl (kn rfl) off_27_0) (w_op rfl rfl rfl (s_load1_box rfl (kn rfl) rfl rfl one_3) .nil)) ?_
  try refine e_fl ?_
  try refine e_fl ?_
  refine e_plain (w_op rfl rfl rfl (s_bin rfl (kn rfl) (kn rfl) v_eql) (w_as rfl rfl rfl rfl rfl .nil)) ?_
  try refine e_fl ?_
  refine e_cond rfl (fun q0 => ?_) (fun q0 => ?_)
  · try refine e_fl ?_
    refine e_cond rfl (fun _ => ?_) (fun h => absurd (h.symm.trans q0) (by decide))
    try refine e_fl ?_
    refine e_plain (w_as rfl rfl rfl rfl rfl .nil) ?_
    try refine e_fl ?_
    exact e_return rfl rfl (.tmp (kn rfl) (.nil)) (tP_eq (by rw [e]; exact (if_pos (.inl (of_decide_eq_true q0))).symm)) rfl
  try refine e_fl ?_
  refine e_plain (w_op rfl rfl rfl (s_bin rfl (kn rfl) (kn rfl) v_eql) (w_as rfl rfl rfl rfl rfl .nil)) ?_
  try refine e_fl ?_
  refine e_cond rfl (fun q1 => ?_) (fun q1 => ?_)
  · try refine e_fl ?_
    refine e_cond rfl (fun _ => ?_) (fun h => absurd (h.symm.trans q1) (by decide))
    try refine e_fl ?_
    refine e_plain (w_as rfl rfl rfl rfl rfl .nil) ?_
    try refine e_fl ?_
    exact e_return rfl rfl (.tmp (kn rfl) (.nil)) (tP_eq (by rw [e]; exact (if_pos (.inr (.inl (of_decide_eq_true q1)))).symm)) rfl
  try refine e_fl ?_
  refine e_plain (w_op rfl rfl rfl (s_bin rfl (kn rfl) (kn rfl) v_eql) (w_as rfl rfl rfl rfl rfl .nil)) ?_
  try refine e_fl ?_
  try refine e_fl ?_
  refine e_cond rfl (fun q2 => ?_) (fun q2 => ?_)
  · try refine e_fl ?_
    refine e_plain (w_as rfl rfl rfl rfl rfl .nil) ?_
    try refine e_fl ?_
    exact e_return rfl rfl (.tmp (kn rfl) (.nil)) (tP_eq (by rw [e]; exact (if_pos (.inr (.inr (of_decide_eq_true q2)))).symm)) rfl
  have n0 := of_decide_eq_false q0
  have n1 := of_decide_eq_false q1
  have n2 := of_decide_eq_false q2
  rw [if_neg (by omega)] at e
  try refine e_fl ?_
  refine e_plain (w_op rfl rfl rfl (s_bin rfl (kn rfl) (kn rfl) v_eql) (w_as rfl rfl rfl rfl rfl .nil)) ?_
  try refine e_fl ?_
  refine e_cond rfl (fun q3 => ?_) (fun q3 => ?_)
  · rw [if_pos (of_decide_eq_true q3)] at e
    try refine e_fl ?_
    refine e_plain (w_op rfl rfl rfl (s_faddr_box rfl (kn rfl) off_27_3) (w_op rfl rfl rfl (s_load1_box rfl (kn rfl) rfl rfl one_23) (w_op rfl rfl rfl (s_call rfl (by kernel_rfl) (all_fields_ef 33 (by kernel_rfl) v.fields a1 fok (fun x hx => fright_ef x (hf x hx))) ⟨(kn rfl), ⟨(kn rfl), trivial⟩⟩) (w_mv rfl rfl rfl rfl rfl (Walk.gd _ rfl rfl rfl (fun h => s_faddr_box rfl (kn rfl) off_27_3) (Walk.gd _ rfl rfl rfl (fun h => s_load1_box rfl (kn_opt rfl h) rfl rfl one_23) (Walk.gd _ rfl rfl rfl (fun h => s_call rfl (by kernel_rfl) (rises_fields_ef 35 (by kernel_rfl) v.fields a1 fnumc (fun x _ y _ => byNumber_ef x y)) ⟨(kn_opt rfl h), ⟨(kn rfl), trivial⟩⟩) (w_op rfl rfl rfl (s_and rfl (kn rfl) (fun hb => kn_opt rfl hb)) (w_as rfl rfl rfl rfl rfl .nil))))))))) ?_
    try refine e_fl ?_
    exact e_return rfl rfl (.tmp (kn rfl) (.nil)) (tP_eq e.symm) rfl
  rw [if_neg (of_decide_eq_false q3)] at e
  try refine e_fl ?_
  refine e_plain (w_op rfl rfl rfl (s_bin rfl (kn rfl) (kn rfl) v_eql) (w_as rfl rfl rfl rfl rfl .nil)) ?_
  try refine e_fl ?_
  refine e_cond rfl (fun q4 => ?_) (fun q4 => ?_)
  · rw [if_pos (of_decide_eq_true q4)] at e
    try refine e_fl ?_
    refine e_plain (w_op rfl rfl rfl (s_faddr_box rfl (kn rfl) off_27_5) (w_op rfl rfl rfl (s_load1_box rfl (kn rfl) rfl rfl one_24) (w_op rfl rfl rfl (s_len rfl (kn rfl) sle_24) (w_op rfl rfl rfl (s_bin rfl (kn rfl) (kn rfl) v_gtr) (w_mv rfl rfl rfl rfl rfl (Walk.gd _ rfl rfl rfl (fun h => s_faddr_box rfl (kn rfl) off_27_5) (Walk.gd _ rfl rfl rfl (fun h => s_load1_box rfl (kn_opt rfl h) rfl rfl one_24) (Walk.gd _ rfl rfl rfl (fun h => s_call rfl (by kernel_rfl) (all_list_ef 37 (by kernel_rfl) v.list a2 vsing (fun x hx => single_ef x (hl x hx))) ⟨(kn_opt rfl h), ⟨(kn rfl), trivial⟩⟩) (w_op rfl rfl rfl (s_and rfl (kn rfl) (fun hb => kn_opt rfl hb)) (w_as rfl rfl rfl rfl rfl .nil)))))))))) ?_
    try refine e_fl ?_
    exact e_return rfl rfl (.tmp (kn rfl) (.nil)) (tP_eq (by rw [e]; simp [Nat.pos_iff_ne_zero])) rfl
  rw [if_neg (of_decide_eq_false q4)] at e
  try refine e_fl ?_
  refine e_plain (w_op rfl rfl rfl (s_bin rfl (kn rfl) (kn rfl) v_eql) (w_as rfl rfl rfl rfl rfl .nil)) ?_
  try refine e_fl ?_
  refine e_cond rfl (fun q5 => ?_) (fun q5 => ?_)
  · rw [if_pos (of_decide_eq_true q5)] at e
    try refine e_fl ?_
    refine e_plain (w_op rfl rfl rfl (s_faddr_box rfl (kn rfl) off_27_6) (w_op rfl rfl rfl (s_load1_box rfl (kn rfl) rfl rfl one_25) (w_op rfl rfl rfl (s_len rfl (kn rfl) sle_25) (w_op rfl rfl rfl (s_bin rfl (kn rfl) (kn rfl) v_gtr) (w_mv rfl rfl rfl rfl rfl (Walk.gd _ rfl rfl rfl (fun h => s_loadn_box (ds := [_, _, _, _, _, _, _]) 7 rfl (kn rfl) rfl rfl agg_27 sz_27 rfl) (Walk.gd _ rfl rfl rfl (fun h => s_call rfl (by kernel_rfl) (pairsRight_ef v hs (List.length_pos_iff.1 (by have := of_decide_eq_true h; omega)) hp) ⟨(kn_opt rfl h), trivial⟩) (w_op rfl rfl rfl (s_and rfl (kn rfl) (fun hb => kn_opt rfl hb)) (w_as rfl rfl rfl rfl rfl .nil))))))))) ?_
    try refine e_fl ?_
    exact e_return rfl rfl (.tmp (kn rfl) (.nil)) (tP_eq (by rw [e]; cases hv : v.pairs <;> simp [prights])) rfl
  rw [if_neg (of_decide_eq_false q5)] at e
  try refine e_fl ?_
  refine e_plain (w_as rfl rfl rfl rfl rfl .nil) ?_
  try refine e_fl ?_
  exact e_return rfl rfl (.tmp (kn rfl) (.nil)) (tP_eq e.symm) rfl
theorem vright_ef (v : Vl) (hv : Short v) : PRight v := by
  revert hv
  exact Vl.parts (P := fun a => Short a → PRight a) (fun v hf hl hp ha => prightv_step v ha (fun f h => hf f h (short_field ha h)) (fun x h => hl x h (short_elem ha h)) (fun p h => ⟨(hp p h).1 (short_pair ha h).1, (hp p h).2 (short_pair ha h).2⟩)) v
end Go.Proofs.Ytlikbiiimhfnkaa
namespace Go.Proofs.Ytlikbiiimhfnkaa
open Go.RowKit
theorem gpairs_get : ∀ {ps : List (Vl × Vl)} {k : Nat} {p : Vl × Vl}, ps[k]? = some p → (gpairs ps)[2 * k]? = some p.1 ∧ (gpairs ps)[2 * k + 1]? = some p.2
  | [], _, _, h => by simp at h
  | q :: ps, 0, p, h => by
    obtain rfl : q = p := by simpa using h
    rw [gpairs_cons]
    exact ⟨rfl, rfl⟩
  | q :: ps, k + 1, p, h => by
    have h1 := gpairs_get (ps := ps) (k := k) (p := p) (by simpa using h)
    rw [gpairs_cons, show 2 * (k + 1) = 2 * k + 1 + 1 by omega]
    exact ⟨by simpa using h1.1, by simpa using h1.2⟩
theorem gkids_eq (v : Vl) : gkids v = v.fields.map (·.2) ++ (v.list ++ gpairs v.pairs) := rfl
theorem gkids_f {v : Vl} {k : Nat} {f : Int × Vl} (h : v.fields[k]? = some f) : (gkids v)[k]? = some f.2 := by
  have hk := (List.getElem?_eq_some_iff.1 h).1
  rw [gkids_eq, List.getElem?_append_left (by simpa using hk), List.getElem?_map, h]
  rfl
theorem gkids_l {v : Vl} {k : Nat} {x : Vl} (h : v.list[k]? = some x) : (gkids v)[v.fields.length + k]? = some x := by
  have hk := (List.getElem?_eq_some_iff.1 h).1
  rw [gkids_eq, List.getElem?_append_right (by simp), List.length_map, Nat.add_sub_cancel_left, List.getElem?_append_left hk, h]
theorem gkids_p {v : Vl} {k : Nat} {p : Vl × Vl} (h : v.pairs[k]? = some p) : (gkids v)[v.fields.length + v.list.length + 2 * k]? = some p.1 ∧ (gkids v)[v.fields.length + v.list.length + 2 * k + 1]? = some p.2 := by
  have hp := gpairs_get h
  have key : ∀ j : Nat, (gkids v)[v.fields.length + v.list.length + j]? = (gpairs v.pairs)[j]? := fun j => by
    rw [gkids_eq, List.getElem?_append_right (by simp; omega), List.length_map, List.getElem?_append_right (by omega)]
    congr 1
    omega
  exact ⟨by rw [key]; exact hp.1, by rw [Nat.add_assoc, key]; exact hp.2⟩
theorem gkids_len (v : Vl) : (gkids v).length = v.fields.length + v.list.length + 2 * v.pairs.length := by
  rw [gkids_eq, List.length_append, List.length_append, List.length_map, gpairs_len]
  omega
abbrev sB (z : Int) : BL := [(3, ⟨3, [.is (.int .i64 z)]⟩)]
abbrev YS (z : Int) (y : IV) (B1 : BL) (R1 : RL) : Prop := y = .tup [] ∧ B1 = sB z ∧ R1 = []
theorem YS.tidy {z z' : Int} (y : IV) (B1 : BL) (R1 : RL) (h : YS z' y B1 R1) : Tidy (sB z) [] y B1 R1 := by
  obtain ⟨rfl, rfl, rfl⟩ := h
  exact ⟨rfl, rfl, rfl, rfl⟩
set_option maxRecDepth 100000 in
set_option maxHeartbeats 1000000 in
theorem each_eg (f : FuncId) (hfc : callable Try.prog f = true) (v : Vl) (hs : Short v) (st : Nat → Int) (hc : ∀ (k : Nat) x, (gkids v)[k]? = some x → EG Try.prog [] f [.part (.many (vd x)), .box 3 0] (sB (st k)) [] (YS (st (k + 1)))) : EG Try.prog [] 40 [.part (.many (vd v)), .clo (.func f) [] [.box 3 0]] (sB (st 0)) [] (YS (st (gkids v).length)) := by
  obtain ⟨a1, a2, a3⟩ := short_len hs
  refine eg_enter 49 Try.func40 rfl rfl rfl fun w D bor mb => ?_
  try refine e_fl ?_
  refine e_list ?_
  refine e_box 2 rfl rfl rfl rfl (kn rfl) rfl rfl rfl rfl ?_
  refine e_nil ?_
  try refine e_fl ?_
  refine e_plain (w_op rfl rfl rfl (s_faddr_box rfl (kn rfl) off_27_3) (w_op rfl rfl rfl (s_load1_box rfl (kn rfl) rfl rfl one_23) (w_op rfl rfl rfl (s_len rfl (kn rfl) sle_23) (w_mv rfl rfl rfl rfl rfl .nil)))) ?_
  try refine e_fl ?_
  refine e_loop (ι := { k : Nat // k ≤ (v.fields).length })
    (fun k => [(1, .clo (.func f) [] [.box 3 0]), (2, .box 2 0), (11, .part (.one (.row 8 (v.fields).length ((v.fields).flatMap fieldDats)))), (12, .is (.int .i64 ((v.fields).length : Int))), (13, .is (.int .i64 (k.1 : Int)))])
    (fun k => [(3, ⟨3, [.is (.int .i64 (st (k.1)))]⟩), (2, ⟨27, bcs (vd v)⟩)]) (fun _ => []) (fun k => (v.fields).length - k.1) ⟨0, by omega⟩
    (fun K => e_sub ⟨s_t, s_t, s_t, s_t, s_t, trivial⟩ ⟨s_b, s_b, trivial⟩ trivial) ?_
  rintro ⟨k, hk⟩
  dsimp only at hk ⊢
  try refine e_fl ?_
  refine e_plain (w_op rfl rfl rfl (s_bin rfl (kn rfl) (kn rfl) v_lss) .nil) ?_
  try refine e_fl ?_
  refine e_cond rfl (fun h => ?_) (fun h => ?_)
  · have hlt : k < v.fields.length := by have := of_decide_eq_true h; omega
    obtain ⟨x, hx⟩ : ∃ x, v.fields[k]? = some x := ⟨_, List.getElem?_eq_getElem hlt⟩
    try refine e_fl ?_
    refine e_list ?_
    refine l_op (s_index rfl (kn rfl) (kn rfl) (by omega) hx fieldDats_len sle_23 esz_23 (fieldDats_vd x)) ?_
    refine l_op (s_loadn_ref rfl (kn rfl) agg_58 sz_58) ?_
    refine e_alloc 5 [.is (.int .i64 0), .is (.int .i64 0), .is (.int .u64 0), .is (.string ⟨#[]⟩), .is (.slice none 0 0), .is (.string ⟨#[]⟩), .is (.slice none 0 0), .is (.slice none 0 0)] rfl rfl rfl rfl zr_58 (fun w D M V => ⟨rfl, fun j x v h1 h2 => cfit_is _ h1 h2 rfl⟩) rfl rfl rfl rfl ?_
    refine e_storew rfl rfl rfl (kn rfl) rfl (kn rfl) rfl rfl sz_58 ?_
    refine e_nil ?_
    try refine e_fl ?_
    refine e_list ?_
    refine l_mv ?_
    refine l_op (s_faddr_box rfl (kn rfl) off_58_1) ?_
    refine l_op (s_loadn_box (ds := [_, _, _, _, _, _, _]) 7 rfl (kn rfl) rfl rfl agg_27 sz_27 rfl) ?_
    refine e_callci (zs := [_]) rfl rfl rfl rfl hfc (hc k x.2 (gkids_f hx)) ⟨rfl, trivial⟩ trivial (kn rfl) ⟨(kn rfl), trivial⟩ rfl (YS.tidy) ?_
    rintro _ _ _ ⟨rfl, rfl, rfl⟩
    refine e_nil ?_
    try refine e_fl ?_
    refine e_plain (w_op rfl rfl rfl (s_bin rfl (kn rfl) (kn rfl) (v_add64 (by first | omega | (dsimp only; omega) | omega))) (w_mv rfl rfl rfl rfl rfl .nil)) ?_
    try refine e_fl ?_
    refine e_again ⟨k + 1, by omega⟩ (by dsimp only; omega) (fun K => e_sub ⟨s_t, s_t, s_t, s_t, s_t, trivial⟩ ⟨s_b, s_b, trivial⟩ trivial)
  obtain rfl : k = v.fields.length := by have := of_decide_eq_false h; omega
  try refine e_fl ?_
  refine e_plain (w_op rfl rfl rfl (s_faddr_box rfl (kn rfl) off_27_5) (w_op rfl rfl rfl (s_load1_box rfl (kn rfl) rfl rfl one_24) (w_op rfl rfl rfl (s_len rfl (kn rfl) sle_24) (w_mv rfl rfl rfl rfl rfl .nil)))) ?_
  try refine e_fl ?_
  refine e_loop (ι := { k : Nat // k ≤ (v.list).length })
    (fun k => [(1, .clo (.func f) [] [.box 3 0]), (2, .box 2 0), (23, .part (.one (.row 7 (v.list).length ((v.list).flatMap Vl.dats)))), (24, .is (.int .i64 ((v.list).length : Int))), (25, .is (.int .i64 (k.1 : Int)))])
    (fun k => [(3, ⟨3, [.is (.int .i64 (st (v.fields.length + k.1)))]⟩), (2, ⟨27, bcs (vd v)⟩)]) (fun _ => []) (fun k => (v.list).length - k.1) ⟨0, by omega⟩
    (fun K => e_sub ⟨s_t, s_t, s_t, s_t, s_t, trivial⟩ ⟨s_b, s_b, trivial⟩ trivial) ?_
  rintro ⟨k, hk⟩
  dsimp only at hk ⊢
  try refine e_fl ?_
  refine e_plain (w_op rfl rfl rfl (s_bin rfl (kn rfl) (kn rfl) v_lss) .nil) ?_
  try refine e_fl ?_
  refine e_cond rfl (fun h => ?_) (fun h => ?_)
  · have hlt : k < v.list.length := by have := of_decide_eq_true h; omega
    obtain ⟨x, hx⟩ : ∃ x, v.list[k]? = some x := ⟨_, List.getElem?_eq_getElem hlt⟩
    try refine e_fl ?_
    refine e_list ?_
    refine l_op (s_index rfl (kn rfl) (kn rfl) (by omega) hx Vl.dats_len sle_24 esz_24 (dats_vd x)) ?_
    refine l_op (s_loadn_ref rfl (kn rfl) agg_27 sz_27) ?_
    refine e_alloc 7 [.is (.int .i64 0), .is (.int .u64 0), .is (.string ⟨#[]⟩), .is (.slice none 0 0), .is (.string ⟨#[]⟩), .is (.slice none 0 0), .is (.slice none 0 0)] rfl rfl rfl rfl zr_27 (fun w D M V => ⟨rfl, fun j x v h1 h2 => cfit_is _ h1 h2 rfl⟩) rfl rfl rfl rfl ?_
    refine e_storew rfl rfl rfl (kn rfl) rfl (kn rfl) rfl rfl sz_27 ?_
    refine e_nil ?_
    try refine e_fl ?_
    refine e_list ?_
    refine l_mv ?_
    refine l_op (s_loadn_box (ds := [_, _, _, _, _, _, _]) 7 rfl (kn rfl) rfl rfl agg_27 sz_27 rfl) ?_
    refine e_callci (zs := [_]) rfl rfl rfl rfl hfc (hc (v.fields.length + k) x (gkids_l hx)) ⟨rfl, trivial⟩ trivial (kn rfl) ⟨(kn rfl), trivial⟩ rfl (YS.tidy) ?_
    rintro _ _ _ ⟨rfl, rfl, rfl⟩
    refine e_nil ?_
    try refine e_fl ?_
    refine e_plain (w_op rfl rfl rfl (s_bin rfl (kn rfl) (kn rfl) (v_add64 (by first | omega | (dsimp only; omega) | omega))) (w_mv rfl rfl rfl rfl rfl .nil)) ?_
    try refine e_fl ?_
    refine e_again ⟨k + 1, by omega⟩ (by dsimp only; omega) (fun K => e_sub ⟨s_t, s_t, s_t, s_t, s_t, trivial⟩ ⟨s_b, s_b, trivial⟩ trivial)
  obtain rfl : k = v.list.length := by have := of_decide_eq_false h; omega
  try refine e_fl ?_
  refine e_plain (w_op rfl rfl rfl (s_faddr_box rfl (kn rfl) off_27_6) (w_op rfl rfl rfl (s_load1_box rfl (kn rfl) rfl rfl one_25) (w_op rfl rfl rfl (s_len rfl (kn rfl) sle_25) (w_mv rfl rfl rfl rfl rfl .nil)))) ?_
  try refine e_fl ?_
  refine e_loop (ι := { k : Nat // k ≤ (v.pairs).length })
    (fun k => [(1, .clo (.func f) [] [.box 3 0]), (2, .box 2 0), (34, .part (.one (.row 14 (v.pairs).length ((v.pairs).flatMap pairDats)))), (35, .is (.int .i64 ((v.pairs).length : Int))), (36, .is (.int .i64 (k.1 : Int)))])
    (fun k => [(3, ⟨3, [.is (.int .i64 (st (v.fields.length + v.list.length + 2 * k.1)))]⟩), (2, ⟨27, bcs (vd v)⟩)]) (fun _ => []) (fun k => (v.pairs).length - k.1) ⟨0, by omega⟩
    (fun K => e_sub ⟨s_t, s_t, s_t, s_t, s_t, trivial⟩ ⟨s_b, s_b, trivial⟩ trivial) ?_
  rintro ⟨k, hk⟩
  dsimp only at hk ⊢
  try refine e_fl ?_
  refine e_plain (w_op rfl rfl rfl (s_bin rfl (kn rfl) (kn rfl) v_lss) .nil) ?_
  try refine e_fl ?_
  refine e_cond rfl (fun h => ?_) (fun h => ?_)
  · have hlt : k < v.pairs.length := by have := of_decide_eq_true h; omega
    obtain ⟨x, hx⟩ : ∃ x, v.pairs[k]? = some x := ⟨_, List.getElem?_eq_getElem hlt⟩
    try refine e_fl ?_
    refine e_list ?_
    refine l_op (s_index rfl (kn rfl) (kn rfl) (by omega) hx pairDats_len sle_25 esz_25 (pairDats_vd x)) ?_
    refine l_op (s_loadn_ref rfl (kn rfl) agg_62 sz_62) ?_
    refine e_alloc 9 [.is (.int .i64 0), .is (.int .u64 0), .is (.string ⟨#[]⟩), .is (.slice none 0 0), .is (.string ⟨#[]⟩), .is (.slice none 0 0), .is (.slice none 0 0), .is (.int .i64 0), .is (.int .u64 0), .is (.string ⟨#[]⟩), .is (.slice none 0 0), .is (.string ⟨#[]⟩), .is (.slice none 0 0), .is (.slice none 0 0)] rfl rfl rfl rfl zr_62 (fun w D M V => ⟨rfl, fun j x v h1 h2 => cfit_is _ h1 h2 rfl⟩) rfl rfl rfl rfl ?_
    refine e_storew rfl rfl rfl (kn rfl) rfl (kn rfl) rfl rfl sz_62 ?_
    refine e_nil ?_
    try refine e_fl ?_
    refine e_list ?_
    refine l_mv ?_
    refine l_op (s_faddr_box rfl (kn rfl) off_62_0) ?_
    refine l_op (s_loadn_box (ds := [_, _, _, _, _, _, _]) 7 rfl (kn rfl) rfl rfl agg_27 sz_27 rfl) ?_
    refine e_callci (zs := [_]) rfl rfl rfl rfl hfc (hc _ x.1 (gkids_p hx).1) ⟨rfl, trivial⟩ trivial (kn rfl) ⟨(kn rfl), trivial⟩ rfl (YS.tidy) ?_
    rintro _ _ _ ⟨rfl, rfl, rfl⟩
    refine e_nil ?_
    try refine e_fl ?_
    refine e_list ?_
    refine l_mv ?_
    refine l_op (s_faddr_box rfl (kn rfl) off_62_1) ?_
    refine l_op (s_loadn_box (ds := [_, _, _, _, _, _, _]) 7 rfl (kn rfl) rfl rfl agg_27 sz_27 rfl) ?_
    refine e_callci (zs := [_]) rfl rfl rfl rfl hfc (hc _ x.2 (gkids_p hx).2) ⟨rfl, trivial⟩ trivial (kn rfl) ⟨(kn rfl), trivial⟩ rfl (YS.tidy) ?_
    rintro _ _ _ ⟨rfl, rfl, rfl⟩
    refine e_nil ?_
    try refine e_fl ?_
    refine e_plain (w_op rfl rfl rfl (s_bin rfl (kn rfl) (kn rfl) (v_add64 (by first | omega | (dsimp only; omega) | omega))) (w_mv rfl rfl rfl rfl rfl .nil)) ?_
    try refine e_fl ?_
    refine e_again ⟨k + 1, by omega⟩ (by dsimp only; omega) (fun K => e_sub ⟨s_t, s_t, s_t, s_t, s_t, trivial⟩ ⟨s_b, s_b, trivial⟩ trivial)
  obtain rfl : k = v.pairs.length := by have := of_decide_eq_false h; omega
  try refine e_fl ?_
  rw [← gkids_len]
  exact e_endx (sB (st (gkids v).length)) [] rfl .nil (Imp.refl _) ⟨s_b, trivial⟩ trivial ⟨rfl, rfl, rfl⟩
theorem gkids_ind {P : Vl → Prop} (h : ∀ v : Vl, (∀ x ∈ gkids v, P x) → P v) (v : Vl) : P v := by
  refine Vl.parts (fun v hf hl hp => h v fun x hx => ?_) v
  simp only [gkids_eq, List.mem_append, List.mem_map] at hx
  rcases hx with ⟨f, h1, rfl⟩ | h1 | h1
  · exact hf f h1
  · exact hl x h1
  · unfold gpairs at h1
    obtain ⟨p, h2, h3⟩ := List.mem_flatMap.1 h1
    simp only [List.mem_cons, List.not_mem_nil, or_false] at h3
    rcases h3 with rfl | rfl
    · exact (hp p h2).1
    · exact (hp p h2).2
theorem short_kid {v : Vl} (h : Short v) {x : Vl} (hx : x ∈ gkids v) : Short x := by
  have h0 : vnodes v ≤ 1000000 := h
  have h1 := lnodes_mem hx
  have h2 := gnodes v
  show vnodes x ≤ 1000000
  omega
theorem vsize_g (v : Vl) : vsize v = if v.kind = 0 then 0 else 1 + lsize (gkids v) := by
  rw [gkids_eq, lsize_append, lsize_append, lsize_fields, lsize_pairs, vsize_eq]
  split <;> omega
theorem vdepth_g (v : Vl) : vdepth v = ldepth (gkids v) + if v.kind = 3 then 1 else 0 := by
  rw [gkids_eq, ldepth_append, ldepth_append, ldepth_fields, ldepth_pairs, vdepth_eq]
  congr 1
  omega
def PSize (v : Vl) : Prop := EF Try.prog [] 12 [.many (vd v)] (.part (iP (vsize v)))
set_option maxRecDepth 100000 in
theorem size1_eg (n m : Int) (x : Vl) (hx : PSize x) (hm : n + vsize x = m) (h0 : 0 ≤ n) (h1 : m ≤ 100000000) : EG Try.prog [] 41 [.part (.many (vd x)), .box 3 0] (sB n) [] (YS m) := by
  subst hm
  refine eg_enter 7 Try.func41 rfl rfl rfl fun w D bor mb => ?_
  try refine e_fl ?_
  refine e_list ?_
  refine e_box 2 rfl rfl rfl rfl (kn rfl) rfl rfl rfl rfl ?_
  refine e_nil ?_
  try refine e_fl ?_
  refine e_draw_tail 4 mixed (by kernel_rfl) (w_op rfl rfl rfl (s_load1_box rfl (kn rfl) rfl rfl one_3) (w_op rfl rfl rfl (s_loadn_box (ds := [_, _, _, _, _, _, _]) 7 rfl (kn rfl) rfl rfl agg_27 sz_27 rfl) (w_op rfl rfl rfl (s_call rfl (by kernel_rfl) (hx) ⟨(kn rfl), trivial⟩) (w_op rfl rfl rfl (s_bin rfl (kn rfl) (kn rfl) (v_add64 (by first | omega | (dsimp only; omega) | omega))) .nil)))) ?_
  refine e_store1 rfl rfl rfl (kn rfl) rfl (kn rfl) rfl rfl sz_3 rfl ?_
  refine e_nil ?_
  try refine e_fl ?_
  exact e_endx (sB (n + vsize x)) [] rfl .nil (Imp.refl _) ⟨s_b, trivial⟩ trivial ⟨rfl, rfl, rfl⟩
set_option maxRecDepth 100000 in
theorem psize_step (v : Vl) (hs : Short v) (ih : ∀ x ∈ gkids v, PSize x) : PSize v := by
  have hn := gnodes v
  have hs0 : vnodes v ≤ 1000000 := hs
  have hE := each_eg 41 (by kernel_rfl) v hs (fun k => 1 + (lsize ((gkids v).take k) : Int)) fun k x hx => by
    have htk := lsize_take hx
    have hle := lsize_le ((gkids v).take (k + 1))
    have hle2 := lnodes_take (gkids v) (k + 1)
    refine size1_eg _ _ x (ih x (List.mem_of_getElem? hx)) ?_ (by omega) (by omega)
    rw [htk]
    omega
  rw [List.take_zero, List.take_length] at hE
  unfold PSize
  refine ef_enter 11 Try.func12 rfl rfl rfl fun w D => ?_
  try refine e_fl ?_
  refine e_list ?_
  refine e_box 1 rfl rfl rfl rfl (kn rfl) rfl rfl rfl rfl ?_
  refine l_as ?_
  refine e_nil ?_
  try refine e_fl ?_
  refine e_plain (w_op rfl rfl rfl (s_faddr_box rfl (kn rfl) off_27_0) (w_op rfl rfl rfl (s_load1_box rfl (kn rfl) rfl rfl one_3) (w_op rfl rfl rfl (s_bin rfl (kn rfl) (kn rfl) v_eql) .nil))) ?_
  try refine e_fl ?_
  refine e_cond rfl (fun h => ?_) (fun h => ?_)
  · have e : vsize v = 0 := by rw [vsize_g]; exact if_pos (of_decide_eq_true h)
    try refine e_fl ?_
    refine e_plain (w_as rfl rfl rfl rfl rfl .nil) ?_
    try refine e_fl ?_
    exact e_return rfl rfl (.tmp (kn rfl) (.nil)) (Imp.of_eq (by rw [e]; rfl)) rfl
  have e : vsize v = 1 + lsize (gkids v) := by rw [vsize_g]; exact if_neg (of_decide_eq_false h)
  try refine e_fl ?_
  refine e_list ?_
  refine e_alloc 3 [.is (.int .i64 0)] rfl rfl rfl rfl zr_3 (fun w D M V => ⟨rfl, fun j x v h1 h2 => cfit_is _ h1 h2 rfl⟩) rfl rfl rfl rfl ?_
  refine e_store1 rfl rfl rfl (kn rfl) rfl (kn rfl) rfl rfl sz_3 rfl ?_
  refine e_nil ?_
  try refine e_fl ?_
  refine e_list ?_
  refine l_op (s_loadn_box (ds := [_, _, _, _, _, _, _]) 7 rfl (kn rfl) rfl rfl agg_27 sz_27 rfl) ?_
  refine l_op (s_func (fs := []) (cs := [.box 3 0]) rfl trivial ⟨(kn rfl), trivial⟩) ?_
  refine e_calli rfl rfl rfl rfl (by kernel_rfl) (hE) ⟨rfl, trivial⟩ trivial ⟨(kn rfl), ⟨(kn rfl), trivial⟩⟩ (YS.tidy) ?_
  rintro _ _ _ ⟨rfl, rfl, rfl⟩
  refine e_nil ?_
  try refine e_fl ?_
  refine e_plain (w_op rfl rfl rfl (s_load1_box rfl (kn rfl) rfl rfl one_3) (w_as rfl rfl rfl rfl rfl .nil)) ?_
  try refine e_fl ?_
  exact e_return rfl rfl (.tmp (kn rfl) (.nil)) (Imp.of_eq (by rw [e]; simp; rfl)) rfl
theorem psize_ef (v : Vl) (hs : Short v) : PSize v := by
  revert hs
  exact gkids_ind (P := fun v => Short v → PSize v) (fun v ih hs => psize_step v hs fun x hx => ih x hx (short_kid hs hx)) v
def PDepth (v : Vl) : Prop := EF Try.prog [] 14 [.many (vd v)] (.part (iP (vdepth v)))
set_option maxRecDepth 100000 in
theorem depth1_eg (n m : Int) (x : Vl) (hx : PDepth x) (hm : max n (vdepth x) = m) : EG Try.prog [] 43 [.part (.many (vd x)), .box 3 0] (sB n) [] (YS m) := by
  subst hm
  refine eg_enter 7 Try.func43 rfl rfl rfl fun w D bor mb => ?_
  try refine e_fl ?_
  refine e_list ?_
  refine e_box 2 rfl rfl rfl rfl (kn rfl) rfl rfl rfl rfl ?_
  refine e_nil ?_
  try refine e_fl ?_
  refine e_draw_tail 4 mixed (by kernel_rfl) (w_op rfl rfl rfl (s_load1_box rfl (kn rfl) rfl rfl one_3) (w_op rfl rfl rfl (s_loadn_box (ds := [_, _, _, _, _, _, _]) 7 rfl (kn rfl) rfl rfl agg_27 sz_27 rfl) (w_op rfl rfl rfl (s_call rfl (by kernel_rfl) (hx) ⟨(kn rfl), trivial⟩) (w_op rfl rfl rfl (s_max rfl (kn rfl) (kn rfl)) .nil)))) ?_
  refine e_store1 rfl rfl rfl (kn rfl) rfl (kn rfl) rfl rfl sz_3 rfl ?_
  refine e_nil ?_
  try refine e_fl ?_
  exact e_endx (sB (max n (vdepth x))) [] rfl .nil (Imp.refl _) ⟨s_b, trivial⟩ trivial ⟨rfl, rfl, rfl⟩
set_option maxRecDepth 100000 in
theorem pdepth_step (v : Vl) (hs : Short v) (ih : ∀ x ∈ gkids v, PDepth x) : PDepth v := by
  have hn := gnodes v
  have hs0 : vnodes v ≤ 1000000 := hs
  have hl := lsize_le (gkids v)
  have hE := each_eg 43 (by kernel_rfl) v hs (fun k => (ldepth ((gkids v).take k) : Int)) fun k x hx => by
    have htk := ldepth_take hx
    refine depth1_eg _ _ x (ih x (List.mem_of_getElem? hx)) ?_
    rw [htk]
    omega
  rw [List.take_zero, List.take_length] at hE
  have e := vdepth_g v
  unfold PDepth
  refine ef_enter 13 Try.func14 rfl rfl rfl fun w D => ?_
  try refine e_fl ?_
  refine e_list ?_
  refine e_box 1 rfl rfl rfl rfl (kn rfl) rfl rfl rfl rfl ?_
  refine l_as ?_
  refine e_nil ?_
  try refine e_fl ?_
  refine e_list ?_
  refine e_alloc 3 [.is (.int .i64 0)] rfl rfl rfl rfl zr_3 (fun w D M V => ⟨rfl, fun j x v h1 h2 => cfit_is _ h1 h2 rfl⟩) rfl rfl rfl rfl ?_
  refine e_store1 rfl rfl rfl (kn rfl) rfl (kn rfl) rfl rfl sz_3 rfl ?_
  refine e_nil ?_
  try refine e_fl ?_
  refine e_list ?_
  refine l_op (s_loadn_box (ds := [_, _, _, _, _, _, _]) 7 rfl (kn rfl) rfl rfl agg_27 sz_27 rfl) ?_
  refine l_op (s_func (fs := []) (cs := [.box 3 0]) rfl trivial ⟨(kn rfl), trivial⟩) ?_
  refine e_calli rfl rfl rfl rfl (by kernel_rfl) (hE) ⟨rfl, trivial⟩ trivial ⟨(kn rfl), ⟨(kn rfl), trivial⟩⟩ (YS.tidy) ?_
  rintro _ _ _ ⟨rfl, rfl, rfl⟩
  refine e_nil ?_
  try refine e_fl ?_
  refine e_plain (w_op rfl rfl rfl (s_faddr_box rfl (kn rfl) off_27_0) (w_op rfl rfl rfl (s_load1_box rfl (kn rfl) rfl rfl one_3) (w_op rfl rfl rfl (s_bin rfl (kn rfl) (kn rfl) v_eql) .nil))) ?_
  try refine e_fl ?_
  refine e_cond rfl (fun h => ?_) (fun h => ?_)
  · rw [if_pos (of_decide_eq_true h)] at e
    try refine e_fl ?_
    refine e_list ?_
    refine l_op (s_load1_box rfl (kn rfl) rfl rfl one_3) ?_
    refine l_op (s_bin rfl (kn rfl) (kn rfl) (v_add64 (by first | omega | (dsimp only; omega) | omega))) ?_
    refine e_store1 rfl rfl rfl (kn rfl) rfl (kn rfl) rfl rfl sz_3 rfl ?_
    refine e_nil ?_
    try refine e_fl ?_
    refine e_plain (w_op rfl rfl rfl (s_load1_box rfl (kn rfl) rfl rfl one_3) (w_as rfl rfl rfl rfl rfl .nil)) ?_
    try refine e_fl ?_
    exact e_return rfl rfl (.tmp (kn rfl) (.nil)) (Imp.of_eq (by rw [e]; simp; rfl)) rfl
  rw [if_neg (of_decide_eq_false h)] at e
  try refine e_fl ?_
  refine e_plain (w_op rfl rfl rfl (s_load1_box rfl (kn rfl) rfl rfl one_3) (w_as rfl rfl rfl rfl rfl .nil)) ?_
  try refine e_fl ?_
  exact e_return rfl rfl (.tmp (kn rfl) (.nil)) (Imp.of_eq (by rw [e]; simp; rfl)) rfl
theorem pdepth_ef (v : Vl) (hs : Short v) : PDepth v := by
  revert hs
  exact gkids_ind (P := fun v => Short v → PDepth v) (fun v ih hs => pdepth_step v hs fun x hx => ih x hx (short_kid hs hx)) v
end Go.Proofs.Ytlikbiiimhfnkaa
