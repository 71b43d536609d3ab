/- Part 11 of what the last text of this claim is proved by: walks over the program, and the math behind them. Conditions: as each theorem says. -/
import Derived.Test.YtagoikglbifhmaaGreatDoorPB10
import Derived.Test.YtagoikglbifhmaaGreatDoorProg
import Derived.Laws.StructEq
import Derived.Lib.AppendStr
import Derived.Lib.Builder
namespace Go.Proofs.YtagoikglbifhmaaGreatDoor
open Go.RowKit
theorem v_dec {P : Program} {t : TypeId} (d : Nat) (h : d ≤ 1000) : BinV P .sub t (.int .i64 ((d + 1 : Nat) : Int)) (.int .i64 1) (.int .i64 (d : Int)) := by
  have := v_sub64 (P := P) (t := t) (m := ((d + 1 : Nat) : Int)) (n := 1) (by omega)
  rwa [show ((d + 1 : Nat) : Int) - 1 = (d : Int) by omega] at this
theorem gstep_yes {g : Vl → Int → Int} {l : Int} {x : Vl} (h : 0 ≤ l) : gstep g l x = g x l := if_pos h
theorem gstep_no {g : Vl → Int → Int} {l : Int} {x : Vl} (h : ¬ 0 ≤ l) : gstep g l x = l := if_neg h
def GreatE (d : Nat) : Prop := ∀ (v : Vl) (left : Int), v.Fine → 0 ≤ left → left ≤ 1000000 → EF Tryz.prog [] 24 [.many (vd v), iP left, iP (d : Int)] (.part (iP (vgreat d v left)))
set_option maxRecDepth 100000 in
theorem great_zero : GreatE 0 := by
  intro v left hv h0 h1
  refine ef_enter 85 Tryz.func24 rfl rfl rfl fun w D => ?_
  try refine e_fl ?_
  refine e_list ?_
  refine e_box 3 rfl rfl rfl rfl (kn rfl) rfl rfl rfl rfl ?_
  refine l_as ?_
  refine e_nil ?_
  try refine e_fl ?_
  refine e_plain (w_mv rfl rfl rfl rfl rfl (w_op rfl rfl rfl (s_bin rfl (kn rfl) (kn rfl) v_eql) (w_mv rfl rfl rfl rfl rfl (Walk.gd _ rfl rfl rfl (fun h => s_faddr_box rfl (kn rfl) off_27_2) (Walk.gd _ rfl rfl rfl (fun h => s_load1_box rfl (kn_opt rfl h) rfl rfl one_9) (Walk.gd _ rfl rfl rfl (fun h => s_slen rfl (kn_opt rfl h) str_9) (Walk.gd _ rfl rfl rfl (fun h => s_bin rfl (kn_opt rfl h) (kn rfl) v_gtr) (w_op rfl rfl rfl (s_or rfl (kn rfl) (fun hb => kn_opt rfl hb)) (w_mv rfl rfl rfl rfl rfl (Walk.gd _ rfl rfl rfl (fun h => s_faddr_box rfl (kn rfl) off_27_4) (Walk.gd _ rfl rfl rfl (fun h => s_load1_box rfl (kn_opt rfl h) rfl rfl one_9) (Walk.gd _ rfl rfl rfl (fun h => s_slen rfl (kn_opt rfl h) str_9) (Walk.gd _ rfl rfl rfl (fun h => s_bin rfl (kn_opt rfl h) (kn rfl) v_gtr) (w_op rfl rfl rfl (s_or rfl (kn rfl) (fun hb => kn_opt rfl hb)) .nil)))))))))))))) ?_
  try refine e_fl ?_
  refine e_cond rfl (fun h => ?_) (fun h => ?_)
  · try refine e_fl ?_
    refine e_plain (w_as rfl rfl rfl rfl rfl .nil) ?_
    try refine e_fl ?_
    exact e_return rfl rfl (.tmp (kn rfl) (.nil)) (Imp.of_eq rfl) rfl
  · simp at h
set_option maxRecDepth 100000 in
set_option maxHeartbeats 4000000 in
theorem great_succ (d : Nat) (hd : d ≤ 1000) (ih : GreatE d) : GreatE (d + 1) := by
  intro v left hv h0 h1
  have hmax : maxLen ≤ 9223372036854775807 := by decide
  obtain ⟨a1, a2, a3, a4, a5, a6, a7, a8⟩ := hv.bounds
  have hgb : ∀ (xs : List Vl) (l : Int), -1 ≤ l → -1 ≤ xs.foldl (gstep (vgreat d)) l ∧ xs.foldl (gstep (vgreat d)) l ≤ l := fun xs l h => gfold_bd (vgreat d) (fun x l hl => vgreat_bd d x l hl) xs l h
  have e : ¬ (400 < v.text.length ∨ 400 < v.rest.length) → vgreat (d + 1) v left = (gpairs v.pairs).foldl (gstep (vgreat d)) (v.list.foldl (gstep (vgreat d)) ((v.fields.map (·.2)).foldl (gstep (vgreat d)) (left - 1))) := fun h => by
    rw [vgreat, if_neg h, gkids, List.foldl_append, List.foldl_append]
    rfl
  refine ef_enter 85 Tryz.func24 rfl rfl rfl fun w D => ?_
  try refine e_fl ?_
  refine e_list ?_
  refine e_box 3 rfl rfl rfl rfl (kn rfl) rfl rfl rfl rfl ?_
  refine l_as ?_
  refine e_nil ?_
  try refine e_fl ?_
  refine e_plain (w_mv rfl rfl rfl rfl rfl (w_op rfl rfl rfl (s_bin rfl (kn rfl) (kn rfl) v_eql) (w_mv rfl rfl rfl rfl rfl (Walk.gd _ rfl rfl rfl (fun h => s_faddr_box rfl (kn rfl) off_27_2) (Walk.gd _ rfl rfl rfl (fun h => s_load1_box rfl (kn_opt rfl h) rfl rfl one_9) (Walk.gd _ rfl rfl rfl (fun h => s_slen rfl (kn_opt rfl h) str_9) (Walk.gd _ rfl rfl rfl (fun h => s_bin rfl (kn_opt rfl h) (kn rfl) v_gtr) (w_op rfl rfl rfl (s_or rfl (kn rfl) (fun hb => kn_opt rfl hb)) (w_mv rfl rfl rfl rfl rfl (Walk.gd _ rfl rfl rfl (fun h => s_faddr_box rfl (kn rfl) off_27_4) (Walk.gd _ rfl rfl rfl (fun h => s_load1_box rfl (kn_opt rfl h) rfl rfl one_9) (Walk.gd _ rfl rfl rfl (fun h => s_slen rfl (kn_opt rfl h) str_9) (Walk.gd _ rfl rfl rfl (fun h => s_bin rfl (kn_opt rfl h) (kn rfl) v_gtr) (w_op rfl rfl rfl (s_or rfl (kn rfl) (fun hb => kn_opt rfl hb)) .nil)))))))))))))) ?_
  try refine e_fl ?_
  refine e_cond rfl (fun h => ?_) (fun h => ?_)
  · have e2 : vgreat (d + 1) v left = -1 := by
      simp only [Bool.or_eq_true, decide_eq_true_eq] at h
      rw [vgreat]
      exact if_pos (by omega)
    try refine e_fl ?_
    refine e_plain (w_as rfl rfl rfl rfl rfl .nil) ?_
    try refine e_fl ?_
    exact e_return rfl rfl (.tmp (kn rfl) (.nil)) (Imp.of_eq (by rw [e2]; rfl)) rfl
  have e2 := e (by
    simp only [Bool.or_eq_false_iff, decide_eq_false_iff_not] at h
    omega)
  clear e h
  try refine e_fl ?_
  refine e_plain (w_mv rfl rfl rfl rfl rfl (w_op rfl rfl rfl (s_bin rfl (kn rfl) (kn rfl) (v_sub64 (by first | omega | (dsimp only; omega) | omega))) (w_as rfl rfl rfl rfl rfl .nil))) ?_
  try refine e_fl ?_
  refine e_plain (w_op rfl rfl rfl (s_faddr_box rfl (kn rfl) off_27_3) (w_op rfl rfl rfl (s_load1_box rfl (kn rfl) rfl rfl one_23) (w_op rfl rfl rfl (s_len rfl (kn rfl) sle_23) (w_mv rfl rfl rfl rfl rfl .nil)))) ?_
  try refine e_fl ?_
  refine e_loop (ι := { k : Nat // k ≤ (v.fields).length })
    (fun k => [(1, .is (.int .i64 ((fun k => ((v.fields.map (·.2)).take k).foldl (gstep (vgreat d)) (left - 1)) k.1))), (2, .is (.int .i64 ((d + 1 : Nat) : Int))), (3, .box 3 0), (30, .part (.one (.row 8 (v.fields).length ((v.fields).flatMap fieldDats)))), (31, .is (.int .i64 ((v.fields).length : Int))), (32, .is (.int .i64 (k.1 : Int)))])
    (fun _ => [(3, ⟨27, bcs (vd v)⟩)]) (fun _ => []) (fun k => (v.fields).length - k.1) ⟨0, by omega⟩
    (fun K => e_sub ⟨s_t, s_t, s_t, s_t, s_t, s_t, trivial⟩ ⟨s_b, trivial⟩ trivial) ?_
  rintro ⟨k, hk⟩
  dsimp only at hk ⊢
  try refine e_fl ?_
  refine e_plain (w_op rfl rfl rfl (s_bin rfl (kn rfl) (kn rfl) v_lss) .nil) ?_
  try refine e_fl ?_
  refine e_cond rfl (fun h => ?_) (fun h => ?_)
  · have hlt : k < v.fields.length := by have := of_decide_eq_true h; omega
    obtain ⟨x, hx⟩ : ∃ x, v.fields[k]? = some x := ⟨_, List.getElem?_eq_getElem hlt⟩
    have hft : ((v.fields.map (·.2)).take (k + 1)).foldl (gstep (vgreat d)) (left - 1) = gstep (vgreat d) (((v.fields.map (·.2)).take k).foldl (gstep (vgreat d)) (left - 1)) x.2 := fold_take (by rw [List.getElem?_map, hx]; rfl)
    have hb := hgb ((v.fields.map (·.2)).take k) (left - 1) (by omega)
    generalize ((v.fields.map (·.2)).take k).foldl (gstep (vgreat d)) (left - 1) = M at hft hb ⊢
    try refine e_fl ?_
    refine e_list ?_
    refine l_op (s_index rfl (kn rfl) (kn rfl) (by omega) hx fieldDats_len sle_23 esz_23 (fieldDats_vd x)) ?_
    refine l_op (s_loadn_ref rfl (kn rfl) agg_66 sz_66) ?_
    refine e_alloc 8 [.is (.int .i64 0), .is (.int .i64 0), .is (.int .u64 0), .is (.string ⟨#[]⟩), .is (.slice none 0 0), .is (.string ⟨#[]⟩), .is (.slice none 0 0), .is (.slice none 0 0)] rfl rfl rfl rfl zr_66 (fun w D M V => ⟨rfl, fun j x v h1 h2 => cfit_is _ h1 h2 rfl⟩) rfl rfl rfl rfl ?_
    refine e_storew rfl rfl rfl (kn rfl) rfl (kn rfl) rfl rfl sz_66 ?_
    refine e_nil ?_
    try refine e_fl ?_
    refine e_plain (w_mv rfl rfl rfl rfl rfl (w_op rfl rfl rfl (s_bin rfl (kn rfl) (kn rfl) v_geq) .nil)) ?_
    try refine e_fl ?_
    refine e_cond rfl (fun h2 => ?_) (fun h2 => ?_)
    · have hM := of_decide_eq_true h2
      rw [gstep_yes hM] at hft
      try refine e_fl ?_
      refine e_plain (w_op rfl rfl rfl (s_faddr_box rfl (kn rfl) off_66_1) (w_op rfl rfl rfl (s_loadn_box (ds := [_, _, _, _, _, _, _]) 7 rfl (kn rfl) rfl rfl agg_27 sz_27 rfl) (w_mv rfl rfl rfl rfl rfl (w_mv rfl rfl rfl rfl rfl (w_op rfl rfl rfl (s_bin rfl (kn rfl) (kn rfl) (v_dec d hd)) (w_op rfl rfl rfl (s_call rfl (by kernel_rfl) (ih x.2 M (hv.field (List.mem_of_getElem? hx)).2 hM (by omega)) ⟨(kn rfl), ⟨(kn rfl), ⟨(kn rfl), trivial⟩⟩⟩) (w_as rfl rfl rfl rfl rfl .nil))))))) ?_
      try refine e_fl ?_
      try refine e_fl ?_
      refine e_plain (w_op rfl rfl rfl (s_bin rfl (kn rfl) (kn rfl) (v_add64 (by first | omega | (dsimp only; omega) | omega))) (w_mv rfl rfl rfl rfl rfl .nil)) ?_
      try refine e_fl ?_
      refine e_again ⟨k + 1, by omega⟩ (by dsimp only; omega) (fun K => e_sub ⟨⟨_, rfl, Imp.of_eq (by rw [hft])⟩, s_t, s_t, s_t, s_t, s_t, trivial⟩ ⟨s_b, trivial⟩ trivial)
    · rw [gstep_no (of_decide_eq_false h2)] at hft
      try refine e_fl ?_
      refine e_plain (w_op rfl rfl rfl (s_bin rfl (kn rfl) (kn rfl) (v_add64 (by first | omega | (dsimp only; omega) | omega))) (w_mv rfl rfl rfl rfl rfl .nil)) ?_
      try refine e_fl ?_
      refine e_again ⟨k + 1, by omega⟩ (by dsimp only; omega) (fun K => e_sub ⟨⟨_, rfl, Imp.of_eq (by rw [hft])⟩, s_t, s_t, s_t, s_t, s_t, trivial⟩ ⟨s_b, trivial⟩ trivial)
  obtain rfl : k = v.fields.length := by have := of_decide_eq_false h; omega
  rw [List.take_of_length_le (by simp)]
  have hb1 := hgb (v.fields.map (·.2)) (left - 1) (by omega)
  generalize (v.fields.map (·.2)).foldl (gstep (vgreat d)) (left - 1) = L1 at hb1 e2 ⊢
  try refine e_fl ?_
  refine e_plain (w_op rfl rfl rfl (s_faddr_box rfl (kn rfl) off_27_5) (w_op rfl rfl rfl (s_load1_box rfl (kn rfl) rfl rfl one_24) (w_op rfl rfl rfl (s_len rfl (kn rfl) sle_24) (w_mv rfl rfl rfl rfl rfl .nil)))) ?_
  try refine e_fl ?_
  refine e_loop (ι := { k : Nat // k ≤ (v.list).length })
    (fun k => [(1, .is (.int .i64 ((fun k => (v.list.take k).foldl (gstep (vgreat d)) L1) k.1))), (2, .is (.int .i64 ((d + 1 : Nat) : Int))), (3, .box 3 0), (46, .part (.one (.row 7 (v.list).length ((v.list).flatMap Vl.dats)))), (47, .is (.int .i64 ((v.list).length : Int))), (48, .is (.int .i64 (k.1 : Int)))])
    (fun _ => [(3, ⟨27, bcs (vd v)⟩)]) (fun _ => []) (fun k => (v.list).length - k.1) ⟨0, by omega⟩
    (fun K => e_sub ⟨s_t, s_t, s_t, s_t, s_t, s_t, trivial⟩ ⟨s_b, trivial⟩ trivial) ?_
  rintro ⟨k, hk⟩
  dsimp only at hk ⊢
  try refine e_fl ?_
  refine e_plain (w_op rfl rfl rfl (s_bin rfl (kn rfl) (kn rfl) v_lss) .nil) ?_
  try refine e_fl ?_
  refine e_cond rfl (fun h => ?_) (fun h => ?_)
  · have hlt : k < v.list.length := by have := of_decide_eq_true h; omega
    obtain ⟨x, hx⟩ : ∃ x, v.list[k]? = some x := ⟨_, List.getElem?_eq_getElem hlt⟩
    have hft : (v.list.take (k + 1)).foldl (gstep (vgreat d)) L1 = gstep (vgreat d) ((v.list.take k).foldl (gstep (vgreat d)) L1) x := fold_take hx
    have hb := hgb (v.list.take k) L1 (by omega)
    generalize (v.list.take k).foldl (gstep (vgreat d)) L1 = M at hft hb ⊢
    try refine e_fl ?_
    refine e_list ?_
    refine l_op (s_index rfl (kn rfl) (kn rfl) (by omega) hx Vl.dats_len sle_24 esz_24 (dats_vd x)) ?_
    refine l_op (s_loadn_ref rfl (kn rfl) agg_27 sz_27) ?_
    refine e_alloc 10 [.is (.int .i64 0), .is (.int .u64 0), .is (.string ⟨#[]⟩), .is (.slice none 0 0), .is (.string ⟨#[]⟩), .is (.slice none 0 0), .is (.slice none 0 0)] rfl rfl rfl rfl zr_27 (fun w D M V => ⟨rfl, fun j x v h1 h2 => cfit_is _ h1 h2 rfl⟩) rfl rfl rfl rfl ?_
    refine e_storew rfl rfl rfl (kn rfl) rfl (kn rfl) rfl rfl sz_27 ?_
    refine e_nil ?_
    try refine e_fl ?_
    refine e_plain (w_mv rfl rfl rfl rfl rfl (w_op rfl rfl rfl (s_bin rfl (kn rfl) (kn rfl) v_geq) .nil)) ?_
    try refine e_fl ?_
    refine e_cond rfl (fun h2 => ?_) (fun h2 => ?_)
    · have hM := of_decide_eq_true h2
      rw [gstep_yes hM] at hft
      try refine e_fl ?_
      refine e_plain (w_op rfl rfl rfl (s_loadn_box (ds := [_, _, _, _, _, _, _]) 7 rfl (kn rfl) rfl rfl agg_27 sz_27 rfl) (w_mv rfl rfl rfl rfl rfl (w_mv rfl rfl rfl rfl rfl (w_op rfl rfl rfl (s_bin rfl (kn rfl) (kn rfl) (v_dec d hd)) (w_op rfl rfl rfl (s_call rfl (by kernel_rfl) (ih x M (hv.elem (List.mem_of_getElem? hx)) hM (by omega)) ⟨(kn rfl), ⟨(kn rfl), ⟨(kn rfl), trivial⟩⟩⟩) (w_as rfl rfl rfl rfl rfl .nil)))))) ?_
      try refine e_fl ?_
      try refine e_fl ?_
      refine e_plain (w_op rfl rfl rfl (s_bin rfl (kn rfl) (kn rfl) (v_add64 (by first | omega | (dsimp only; omega) | omega))) (w_mv rfl rfl rfl rfl rfl .nil)) ?_
      try refine e_fl ?_
      refine e_again ⟨k + 1, by omega⟩ (by dsimp only; omega) (fun K => e_sub ⟨⟨_, rfl, Imp.of_eq (by rw [hft])⟩, s_t, s_t, s_t, s_t, s_t, trivial⟩ ⟨s_b, trivial⟩ trivial)
    · rw [gstep_no (of_decide_eq_false h2)] at hft
      try refine e_fl ?_
      refine e_plain (w_op rfl rfl rfl (s_bin rfl (kn rfl) (kn rfl) (v_add64 (by first | omega | (dsimp only; omega) | omega))) (w_mv rfl rfl rfl rfl rfl .nil)) ?_
      try refine e_fl ?_
      refine e_again ⟨k + 1, by omega⟩ (by dsimp only; omega) (fun K => e_sub ⟨⟨_, rfl, Imp.of_eq (by rw [hft])⟩, s_t, s_t, s_t, s_t, s_t, trivial⟩ ⟨s_b, trivial⟩ trivial)
  obtain rfl : k = v.list.length := by have := of_decide_eq_false h; omega
  rw [List.take_length]
  have hb2 := hgb v.list L1 (by omega)
  generalize v.list.foldl (gstep (vgreat d)) L1 = L2 at hb2 e2 ⊢
  try refine e_fl ?_
  refine e_plain (w_op rfl rfl rfl (s_faddr_box rfl (kn rfl) off_27_6) (w_op rfl rfl rfl (s_load1_box rfl (kn rfl) rfl rfl one_25) (w_op rfl rfl rfl (s_len rfl (kn rfl) sle_25) (w_mv rfl rfl rfl rfl rfl .nil)))) ?_
  try refine e_fl ?_
  refine e_loop (ι := { k : Nat // k ≤ (v.pairs).length })
    (fun k => [(1, .is (.int .i64 ((fun k => (gpairs (v.pairs.take k)).foldl (gstep (vgreat d)) L2) k.1))), (2, .is (.int .i64 ((d + 1 : Nat) : Int))), (3, .box 3 0), (61, .part (.one (.row 14 (v.pairs).length ((v.pairs).flatMap pairDats)))), (62, .is (.int .i64 ((v.pairs).length : Int))), (63, .is (.int .i64 (k.1 : Int)))])
    (fun _ => [(3, ⟨27, bcs (vd v)⟩)]) (fun _ => []) (fun k => (v.pairs).length - k.1) ⟨0, by omega⟩
    (fun K => e_sub ⟨s_t, s_t, s_t, s_t, s_t, s_t, trivial⟩ ⟨s_b, trivial⟩ trivial) ?_
  rintro ⟨k, hk⟩
  dsimp only at hk ⊢
  try refine e_fl ?_
  refine e_plain (w_op rfl rfl rfl (s_bin rfl (kn rfl) (kn rfl) v_lss) .nil) ?_
  try refine e_fl ?_
  refine e_cond rfl (fun h => ?_) (fun h => ?_)
  · have hlt : k < v.pairs.length := by have := of_decide_eq_true h; omega
    obtain ⟨x, hx⟩ : ∃ x, v.pairs[k]? = some x := ⟨_, List.getElem?_eq_getElem hlt⟩
    have hft := gpairs_take (g := gstep (vgreat d)) (l := L2) hx
    have hb := hgb (gpairs (v.pairs.take k)) L2 (by omega)
    generalize (gpairs (v.pairs.take k)).foldl (gstep (vgreat d)) L2 = M at hft hb ⊢
    try refine e_fl ?_
    refine e_list ?_
    refine l_op (s_index rfl (kn rfl) (kn rfl) (by omega) hx pairDats_len sle_25 esz_25 (pairDats_vd x)) ?_
    refine l_op (s_loadn_ref rfl (kn rfl) agg_82 sz_82) ?_
    refine e_alloc 12 [.is (.int .i64 0), .is (.int .u64 0), .is (.string ⟨#[]⟩), .is (.slice none 0 0), .is (.string ⟨#[]⟩), .is (.slice none 0 0), .is (.slice none 0 0), .is (.int .i64 0), .is (.int .u64 0), .is (.string ⟨#[]⟩), .is (.slice none 0 0), .is (.string ⟨#[]⟩), .is (.slice none 0 0), .is (.slice none 0 0)] rfl rfl rfl rfl zr_82 (fun w D M V => ⟨rfl, fun j x v h1 h2 => cfit_is _ h1 h2 rfl⟩) rfl rfl rfl rfl ?_
    refine e_storew rfl rfl rfl (kn rfl) rfl (kn rfl) rfl rfl sz_82 ?_
    refine e_nil ?_
    try refine e_fl ?_
    refine e_plain (w_mv rfl rfl rfl rfl rfl (w_op rfl rfl rfl (s_bin rfl (kn rfl) (kn rfl) v_geq) .nil)) ?_
    try refine e_fl ?_
    refine e_cond rfl (fun h2 => ?_) (fun h2 => ?_)
    · have hM := of_decide_eq_true h2
      rw [gstep_yes hM] at hft
      have hbd := vgreat_bd d x.1 M hM
      try refine e_fl ?_
      refine e_plain (w_op rfl rfl rfl (s_faddr_box rfl (kn rfl) off_82_0) (w_op rfl rfl rfl (s_loadn_box (ds := [_, _, _, _, _, _, _]) 7 rfl (kn rfl) rfl rfl agg_27 sz_27 rfl) (w_mv rfl rfl rfl rfl rfl (w_mv rfl rfl rfl rfl rfl (w_op rfl rfl rfl (s_bin rfl (kn rfl) (kn rfl) (v_dec d hd)) (w_op rfl rfl rfl (s_call rfl (by kernel_rfl) (ih x.1 M (hv.pair (List.mem_of_getElem? hx)).1 hM (by omega)) ⟨(kn rfl), ⟨(kn rfl), ⟨(kn rfl), trivial⟩⟩⟩) (w_as rfl rfl rfl rfl rfl .nil))))))) ?_
      try refine e_fl ?_
      try refine e_fl ?_
      refine e_plain (w_mv rfl rfl rfl rfl rfl (w_op rfl rfl rfl (s_bin rfl (kn rfl) (kn rfl) v_geq) .nil)) ?_
      try refine e_fl ?_
      refine e_cond rfl (fun h3 => ?_) (fun h3 => ?_)
      · have hM2 := of_decide_eq_true h3
        rw [gstep_yes hM2] at hft
        try refine e_fl ?_
        refine e_plain (w_op rfl rfl rfl (s_faddr_box rfl (kn rfl) off_82_1) (w_op rfl rfl rfl (s_loadn_box (ds := [_, _, _, _, _, _, _]) 7 rfl (kn rfl) rfl rfl agg_27 sz_27 rfl) (w_mv rfl rfl rfl rfl rfl (w_mv rfl rfl rfl rfl rfl (w_op rfl rfl rfl (s_bin rfl (kn rfl) (kn rfl) (v_dec d hd)) (w_op rfl rfl rfl (s_call rfl (by kernel_rfl) (ih x.2 (vgreat d x.1 M) (hv.pair (List.mem_of_getElem? hx)).2 hM2 (by omega)) ⟨(kn rfl), ⟨(kn rfl), ⟨(kn rfl), trivial⟩⟩⟩) (w_as rfl rfl rfl rfl rfl .nil))))))) ?_
        try refine e_fl ?_
        try refine e_fl ?_
        refine e_plain (w_op rfl rfl rfl (s_bin rfl (kn rfl) (kn rfl) (v_add64 (by first | omega | (dsimp only; omega) | omega))) (w_mv rfl rfl rfl rfl rfl .nil)) ?_
        try refine e_fl ?_
        refine e_again ⟨k + 1, by omega⟩ (by dsimp only; omega) (fun K => e_sub ⟨⟨_, rfl, Imp.of_eq (by rw [hft])⟩, s_t, s_t, s_t, s_t, s_t, trivial⟩ ⟨s_b, trivial⟩ trivial)
      · rw [gstep_no (of_decide_eq_false h3)] at hft
        try refine e_fl ?_
        refine e_plain (w_op rfl rfl rfl (s_bin rfl (kn rfl) (kn rfl) (v_add64 (by first | omega | (dsimp only; omega) | omega))) (w_mv rfl rfl rfl rfl rfl .nil)) ?_
        try refine e_fl ?_
        refine e_again ⟨k + 1, by omega⟩ (by dsimp only; omega) (fun K => e_sub ⟨⟨_, rfl, Imp.of_eq (by rw [hft])⟩, s_t, s_t, s_t, s_t, s_t, trivial⟩ ⟨s_b, trivial⟩ trivial)
    · rw [gstep_no (of_decide_eq_false h2), gstep_no (of_decide_eq_false h2)] at hft
      try refine e_fl ?_
      refine e_plain (w_mv rfl rfl rfl rfl rfl (w_op rfl rfl rfl (s_bin rfl (kn rfl) (kn rfl) v_geq) .nil)) ?_
      try refine e_fl ?_
      refine e_cond rfl (fun h3 => ?_) (fun h3 => ?_)
      · exact absurd (of_decide_eq_true h3) (of_decide_eq_false h2)
      try refine e_fl ?_
      refine e_plain (w_op rfl rfl rfl (s_bin rfl (kn rfl) (kn rfl) (v_add64 (by first | omega | (dsimp only; omega) | omega))) (w_mv rfl rfl rfl rfl rfl .nil)) ?_
      try refine e_fl ?_
      refine e_again ⟨k + 1, by omega⟩ (by dsimp only; omega) (fun K => e_sub ⟨⟨_, rfl, Imp.of_eq (by rw [hft])⟩, s_t, s_t, s_t, s_t, s_t, trivial⟩ ⟨s_b, trivial⟩ trivial)
  obtain rfl : k = v.pairs.length := by have := of_decide_eq_false h; omega
  rw [List.take_length]
  try refine e_fl ?_
  refine e_plain (w_mv rfl rfl rfl rfl rfl (w_as rfl rfl rfl rfl rfl .nil)) ?_
  try refine e_fl ?_
  exact e_return rfl rfl (.tmp (kn rfl) (.nil)) (Imp.of_eq (by rw [e2]; rfl)) rfl
theorem great_ef : ∀ d : Nat, d ≤ 1000 → GreatE d
  | 0, _ => great_zero
  | d + 1, h => great_succ d (by omega) (great_ef d (by omega))
def vbig (v : Vl) (most : Int) : Bool := decide (vgreat 30 v most < 0)
set_option maxRecDepth 100000 in
theorem big_ef (v : Vl) (most : Int) (hv : v.Fine) (h0 : 0 ≤ most) (h1 : most ≤ 1000000) : EF Tryz.prog [] 7 [.many (vd v), iP most] (.part (tP (vbig v most))) := by
  refine ef_enter 9 Tryz.func7 rfl rfl rfl fun w D => ?_
  try refine e_fl ?_
  refine e_list ?_
  refine e_box 2 rfl rfl rfl rfl (kn rfl) rfl rfl rfl rfl ?_
  refine l_as ?_
  refine e_nil ?_
  try refine e_fl ?_
  refine e_plain (w_op rfl rfl rfl (s_loadn_box (ds := [_, _, _, _, _, _, _]) 7 rfl (kn rfl) rfl rfl agg_27 sz_27 rfl) (w_mv rfl rfl rfl rfl rfl (w_op rfl rfl rfl (s_call rfl (by kernel_rfl) (great_ef 30 (by omega) v most hv h0 h1) ⟨(kn rfl), ⟨(kn rfl), ⟨(kn rfl), trivial⟩⟩⟩) (w_op rfl rfl rfl (s_bin rfl (kn rfl) (kn rfl) v_lss) (w_as rfl rfl rfl rfl rfl .nil))))) ?_
  try refine e_fl ?_
  exact e_return rfl rfl (.tmp (kn rfl) (.nil)) (Imp.of_eq rfl) rfl
theorem vbig_no {v : Vl} {most : Int} (h0 : 0 ≤ most) (h : vbig v most = false) : (vnodes v : Int) ≤ most ∧ v.Tx := by
  have h1 := of_decide_eq_false h
  have h2 := vgreat_ok 30 v most h0 (by omega)
  exact ⟨by omega, h2.2.tx⟩
end Go.Proofs.YtagoikglbifhmaaGreatDoor
namespace Go.Proofs.YtagoikglbifhmaaGreatDoor
open Go.RowKit
inductive Alike (P : Program) (t : TypeId) : Value → Value → Prop where
  | int (k k' : IntKind) (a b : Int) (h : P.underlying t = some (.int k')) : Alike P t (.int k a) (.int k b)
  | str (a b : List UInt8) (h : P.underlying t = some .string) : Alike P t (.string (str a)) (.string (str b))
theorem Alike.plain {P : Program} {t : TypeId} {a b : Value} (h : Alike P t a b) : P.underlying t = some .string ∨ ∃ k, P.underlying t = some (.int k) := by
  cases h with
  | int k k' a b hu => exact .inr ⟨k', hu⟩
  | str a b hu => exact .inl hu
section
variable {P : Program} {cx : Cx} {T : TL} {B : BL} {R : RL} {o : Oper}
end
end Go.Proofs.YtagoikglbifhmaaGreatDoor
namespace Go.Proofs.YtagoikglbifhmaaGreatDoor
open Go.RowKit
theorem Cap.ren_id (c : Cap) : c.ren (fun b => b) = c := by cases c <;> rfl
theorem caps_ren_id (l : List Cap) : l.map (Cap.ren fun b => b) = l := by
  induction l with
  | nil => rfl
  | cons c l ih => rw [List.map_cons, ih, Cap.ren_id]
theorem IV.ren_id (x : IV) : x.ren (fun b => b) (fun r => r) = x := by
  induction x with
  | opt g x ih => unfold IV.ren; rw [ih]
  | clo fn fs cs => unfold IV.ren; rw [caps_ren_id, caps_ren_id]
  | _ => rfl
theorem ivs_ren_id (l : List IV) : l.map (·.ren (fun b => b) (fun r => r)) = l := by
  induction l with
  | nil => rfl
  | cons c l ih => rw [List.map_cons, ih, IV.ren_id]
theorem renB_id (B : BL) : renB (fun b => b) (fun r => r) B = B := by
  unfold renB
  induction B with
  | nil => rfl
  | cons x B ih => rw [List.map_cons, ih, ivs_ren_id]
theorem renR_id (R : RL) : renR (fun r => r) R = R := by
  unfold renR
  induction R with
  | nil => rfl
  | cons x B ih => rw [List.map_cons, ih]
def LentI (B : BL) (R : RL) (B0 : BL) (R0 : RL) : Prop := (∀ b x, lk b B0 = some x → lk b B = some x) ∧ ∀ r x, lk r R0 = some x → lk r R = some x
theorem LentI.lent {B : BL} {R : RL} {B0 : BL} {R0 : RL} (h : LentI B R B0 R0) : Lent B R (fun b => b) (fun r => r) B0 R0 := ⟨fun b x hx => by rw [ivs_ren_id]; exact h.1 b x hx, h.2, fun _ _ _ _ e => e, fun _ _ _ _ e => e⟩
def LentB (B : BL) : BL → Prop
  | [] => True
  | (b, x) :: l => lk b B = some x ∧ LentB B l
def LentR (R : RL) : RL → Prop
  | [] => True
  | (r, x) :: l => lk r R = some x ∧ LentR R l
theorem LentB.get {B : BL} : ∀ {B0 : BL} (_ : LentB B B0) {b : Nat} {x : Bx}, lk b B0 = some x → lk b B = some x
  | (c, y) :: l, h, b, x, hx => by
    rcases lk_cons hx with ⟨rfl, rfl⟩ | ⟨_, hx⟩
    · exact h.1
    · exact LentB.get h.2 hx
  | [], _, _, _, hx => by cases hx
theorem LentR.get {R : RL} : ∀ {R0 : RL} (_ : LentR R R0) {b : Nat} {x : Rw}, lk b R0 = some x → lk b R = some x
  | (c, y) :: l, h, b, x, hx => by
    rcases lk_cons hx with ⟨rfl, rfl⟩ | ⟨_, hx⟩
    · exact h.1
    · exact LentR.get h.2 hx
  | [], _, _, _, hx => by cases hx
section
variable {P : Program} {cx : Cx} {T : TL} {B : BL} {R : RL} {o : Oper}
def Tidy (B0 : BL) (R0 : RL) (y : IV) (B1 : BL) (R1 : RL) : Prop := names B1 = names B0 ∧ names R1 = names R0 ∧ binB (names B0) (names R0) B1 = true ∧ y.bin (names B0) (names R0) = true
theorem e_calli {ops : Array Oper} {Q : Exit → Act → World → Prop} {l : List Oper} {d : Nat} {f : FuncId} {xs : List Operand} {ts : Array TypeId} {ys : List IV} {B0 : BL} {R0 : RL} {Y : IV → BL → RL → Prop} (hg : o.guard = none) (hd : o.dst = some d) (hn : Nat.blt d cx.n = true) (ho : o.op = .call { callee := .value (.func f), args := xs.toArray, argTypes := ts }) (hc : callable P f = true)
    (hf : EG P cx.gl f ys B0 R0 Y) (hB : LentB B B0) (hR : LentR R R0) (hx : KnX T xs ys) (hY : ∀ y B1 R1, Y y B1 R1 → Tidy B0 R0 y B1 R1)
    (hE : ∀ y B1 R1, Y y B1 R1 → E cx ((d, y) :: killTL (names R0) T) (B1 ++ killBL (names R0) B) (R1 ++ R) (wpList P ops Q l)) : E cx T B R (wpList P ops Q (o :: l)) :=
  e_callx (fun b => b) (fun r => r) hg hd hn ho hc (LentI.lent ⟨fun _ _ h => hB.get h, fun _ _ h => hR.get h⟩) (by rw [ivs_ren_id]; exact hx) hf hY fun y B1 R1 hy => by
    rw [IV.ren_id, renB_id, renR_id, List.map_id']
    exact hE y B1 R1 hy
theorem e_callci {ops : Array Oper} {Q : Exit → Act → World → Prop} {l : List Oper} {d : Nat} {f : FuncId} {x : Operand} {xs : List Operand} {ts : Array TypeId} {fs cs : List Cap} {zs ys : List IV} {B0 : BL} {R0 : RL} {Y : IV → BL → RL → Prop} (hg : o.guard = none) (hd : o.dst = some d) (hn : Nat.blt d cx.n = true) (ho : o.op = .call { callee := .value x, args := xs.toArray, argTypes := ts }) (hc : callable P f = true)
    (hf : EG P cx.gl f ys B0 R0 Y) (hB : LentB B B0) (hR : LentR R R0) (hx : Kn T x (.clo (.func f) fs cs)) (hxs : KnX T xs zs) (hys : ys = fs.map Cap.iv ++ zs ++ cs.map Cap.iv) (hY : ∀ y B1 R1, Y y B1 R1 → Tidy B0 R0 y B1 R1)
    (hE : ∀ y B1 R1, Y y B1 R1 → E cx ((d, y) :: killTL (names R0) T) (B1 ++ killBL (names R0) B) (R1 ++ R) (wpList P ops Q l)) : E cx T B R (wpList P ops Q (o :: l)) :=
  e_callc (fun b => b) (fun r => r) hg hd hn ho hc (LentI.lent ⟨fun _ _ h => hB.get h, fun _ _ h => hR.get h⟩) hx hxs (by rw [ivs_ren_id]; exact hys) hf hY fun y B1 R1 hy => by
    rw [IV.ren_id, renB_id, renR_id, List.map_id']
    exact hE y B1 R1 hy
theorem fits_cells (w : World) (D : Nat → Prop) (cs : List Value) : Fits w D (cs.map .cell) cs := by
  induction cs with
  | nil => exact Fits.nil _ _
  | cons c cs ih => exact .cons (.cell c) ih
end
end Go.Proofs.YtagoikglbifhmaaGreatDoor
namespace Go.Proofs.YtagoikglbifhmaaGreatDoor
open Go.RowKit
section
variable {P : Program} {cx : Cx} {T : TL} {B : BL} {R : RL} {o : Oper}
theorem run_append_text (w : World) (t u ty e : TypeId) (ht : P.underlying t = some (.slice e)) (hu : P.underlying u = some .string) (hz : (P.info? e).map (fun i => (i.zero, i.size, i.bytes)) = some (some (.int .u8 0), 1, 1)) (v : Value) (n : Nat) (xs : List Value) (hown : w.ownsRow 0 e 1 v n xs) (s : ByteArray) (hs : n + s.size ≤ 140737488355328) :
    ∃ v' w', (Builtin.append_ #[t, u] ty #[v, .string s]).run P w = .ok v' w' ∧ w'.ownsRow 0 e 1 v' (n + s.size) (xs ++ Lib.strCells s) ∧ w.grownBy w' v.ownBlock ∧ (v'.ownBlock = v.ownBlock ∨ v'.ownBlock = some w.heap.size) := by
  obtain ⟨i, hi, hi2⟩ := Option.map_eq_some_iff.1 hz
  simp only [Prod.mk.injEq] at hi2
  obtain ⟨z1, z2, z3⟩ := hi2
  obtain ⟨v', w', h1, h2, h3, h4⟩ := Lib.run_append_own_string (P := P) w 0 t u ty e i ht hu hi z1 z2 z3 v n xs hown s (by unfold maxLen; omega) hs (Nat.zero_le _)
  refine ⟨v', w', h1, h2, h3, ?_⟩
  have hxl : xs.length = n := by simpa using hown.1
  rcases hown.2 with ⟨rfl, rfl⟩ | ⟨g, cap, cur, rfl, _, hg, hnc, hcm, hcs, htake⟩
  · by_cases hm : s.size = 0
    · rw [h4.2 ⟨rfl, hm⟩]
      exact .inl rfl
    · have hr := run_append_nil_string (P := P) w t u ty e i (.int .u8 0) ht hu hi z1 s (by omega) (by omega) (by rw [z3]; omega)
      rw [h1] at hr
      injection hr with hv _
      rw [hv]
      exact .inr rfl
  · by_cases hroom : n + s.size ≤ cap
    · have hr := Lib.run_append_room_string (P := P) w t u ty e i ht hu hi z2 g n cap cur hg s hroom (by simp at hcs; omega)
      rw [h1] at hr
      injection hr with hv _
      rw [hv]
      exact .inl rfl
    · have holds : ∀ j u, xs[j]? = some u → w.cell? ((⟨g, 0, none⟩ : Addr).add j) = some u := hown.cells (g := g) rfl
      have hr := Lib.run_append_grow_string (P := P) w t u ty e i (.int .u8 0) ht hu hi z1 ⟨g, 0, none⟩ n cap xs (by rw [z2]; simpa using hxl) holds s (by omega) (by omega) (by rw [z3]; exact growslice_fits (by omega) (by omega))
      rw [h1] at hr
      injection hr with hv _
      rw [hv]
      exact .inr rfl
theorem e_append_str {ops : Array Oper} {Q : Exit → Act → World → Prop} {l : List Oper} {d : Nat} {x y : Operand} {t u : TypeId} {r n : Nat} {ty : TypeId} {ds : List Dat} {s : List UInt8} (hg : o.guard = none) (hd : o.dst = some d) (hn : Nat.blt d cx.n = true) (ho : o.op = .call { callee := .builtin .append, args := #[x, y], argTypes := #[t, u] }) (hx : Kn T x (.own r)) (hr : lk r R = some ⟨ty, 1, n, ds, false⟩) (hy : Kn T y (.is (.string (str s))))
    (ht : P.underlying t = some (.slice ty)) (hu : P.underlying u = some .string) (hz : (P.info? ty).map (fun i => (i.zero, i.size, i.bytes)) = some (some (.int .u8 0), 1, 1)) (hb1 : n + s.length ≤ 140737488355328)
    (hE : E cx ((d, .own r) :: killT r T) (killB r B) ((r, ⟨ty, 1, n + s.length, ds ++ s.map fun b => .cell (bv b), false⟩) :: R) (wpList P ops Q l)) (hty : Nat.blt ty 1000000 = true := by rfl) : E cx T B R (wpList P ops Q (o :: l)) := fun M V a w hrel => by
  refine wpList_plain hg fun K hK => ?_
  have hh := hrel.heap
  have hxv : a.eval x = V r := hx w (Dc cx B R M V w) M V a fun t z _ hz => hrel.tmp t z hz
  have hyv : a.eval y = .string (str s) := Lies.cell_eq (hy w (Dc cx B R M V w) M V a fun t z _ hz => hrel.tmp t z hz)
  have hrow := hh.row r _ hr
  obtain ⟨xs, hown, hfx⟩ : Gr w (Dc cx B R M V w) 0 ty 1 (V r) n ds := Gx.row hrow hty
  have hro : ∀ g, obk (V r) = some g → cx.w0.heap.size ≤ g ∨ cx.bor g := fun g hg => hh.ro r _ g hr rfl hg
  have hsz : (str s).size = s.length := strSize s
  have hcells : Lib.strCells (str s) = s.map bv := by
    unfold Lib.strCells str bv
    simp
  obtain ⟨v', w', hrun, hown', hgr, hblk⟩ := run_append_text (P := P) w t u o.type ty ht hu hz (V r) n xs hown (str s) (by omega)
  rw [hsz, hcells] at hown'
  rw [← obk_row hown, ← obk_row hown'] at hblk
  rw [← obk_row hown] at hgr
  have hfe : Fits w (Dc cx B R M V w) (s.map fun b => .cell (bv b)) (s.map bv) := by
    have := fits_cells w (Dc cx B R M V w) (s.map bv)
    rwa [List.map_map] at this
  have hDne : ∀ g, Dc cx B R M V w g → some g ≠ obk (V r) := fun g hg e => by
    rcases hg with hg | ⟨_, _, _, a4⟩
    · have := hh.d0 g hg
      rcases hro g e.symm with h | h
      · omega
      · exact this.2 h
    · exact a4 r _ hr rfl e.symm
  have hkeep : Keeps (Dc cx B R M V w) w w' := .of_grown hgr (fun g hg => hh.dlt hg) hDne
  let V' : Nat → Value := fun q => if q = r then v' else V q
  have hVr : V' r = v' := if_pos rfl
  have hV : ∀ q, q ≠ r → V' q = V q := fun q h => if_neg h
  have hblt : ∀ c x, lk c B = some x → M c < w.heap.size := fun c x hx => by
    obtain ⟨_, cs, h2, _⟩ := hh.box c x hx
    exact h2.lt
  have hlkB : ∀ c x, lk c (killB r B) = some x → ∃ y, lk c B = some y ∧ x = ⟨y.ty, y.cs.map (·.kill r)⟩ := fun c x hx => by
    unfold killB at hx
    rw [lk_map (fun y : Bx => (⟨y.ty, y.cs.map (·.kill r)⟩ : Bx)), Option.map_eq_some_iff] at hx
    obtain ⟨y, h1, h2⟩ := hx
    exact ⟨y, h1, h2.symm⟩
  have hnew : ∀ g, obk v' = some g → obk (V r) = some g ∨ g = w.heap.size := fun g hg => by
    rcases hblk with h | h
    · exact .inl (h ▸ hg)
    · rw [h] at hg
      exact .inr (by simpa using hg.symm)
  have hD : ∀ g, Dc cx B R M V w g → Dc cx (killB r B) ((r, ⟨ty, 1, n + s.length, ds ++ s.map fun b => .cell (bv b), false⟩) :: R) M V' w' g := fun g hg => by
    have hgl := hh.dlt hg
    have hgn := hDne g hg
    rcases hg with hg | ⟨a1, a2, a3, a4⟩
    · exact .inl hg
    · refine .inr ⟨a1, by have := hgr.size; omega, fun c x hx => ?_, fun q x hx hf e => ?_⟩
      · obtain ⟨y, hy, _⟩ := hlkB c x hx
        exact a3 c y hy
      · rcases lk_cons hx with ⟨rfl, rfl⟩ | ⟨hne, hx⟩
        · rw [hVr] at e
          rcases hnew g e with e | e
          · exact hgn e.symm
          · omega
        · rw [hV q (Ne.symm hne)] at e
          exact a4 q x hx hf e
  have hrel' : Rel cx ((d, .own r) :: killT r T) (killB r B) ((r, ⟨ty, 1, n + s.length, ds ++ s.map fun b => .cell (bv b), false⟩) :: R) M V' (a.put (some d) v') w' := by
    refine ⟨by simpa [Act.put] using hrel.size, hrel.defers, ⟨hh.below.turn hgr.os hgr.tape hgr.output hgr.size _ hro (fun k hk hne => hgr.block k hk hne), hh.d0, hh.bl, hh.gl, fun c x hx => ?_, fun q x hx => ?_, fun q x g hx hf hg => ?_, hh.pin, fun c e x y hx hy he => ?_, fun c q x y g hx hy hf hg => ?_, fun q p x y g hx hy hf hf' hg hg' => ?_⟩, fun t x hx => ?_⟩
    · obtain ⟨y, hy, rfl⟩ := hlkB c x hx
      obtain ⟨a1, cs, a2, a3⟩ := hh.box c y hy
      refine ⟨a1, cs, a2.grown hgr fun e => hh.br c r y _ (M c) hy hr rfl e.symm rfl, by simpa using a3.1, fun j z u hz hu => ?_⟩
      simp only [List.getElem?_map, Option.map_eq_some_iff] at hz
      obtain ⟨z0, hz0, rfl⟩ := hz
      have := a3.2 j z0 u hz0 hu
      exact ⟨(this.1.kill.newV hV (IV.nor_kill r z0)).stay hkeep hD, this.2⟩
    · rcases lk_cons hx with ⟨rfl, rfl⟩ | ⟨hne, hx⟩
      · rw [hVr]
        have : Gx w' (Dc cx (killB r B) ((r, ⟨ty, 1, n + s.length, ds ++ s.map fun b => .cell (bv b), false⟩) :: R) M V' w') 0 ty 1 v' (n + s.length) (ds ++ s.map fun b => .cell (bv b)) := ⟨_, .inl ⟨hty, hown'⟩, (hfx.append hfe).stay hkeep hD⟩
        exact this
      · rw [hV q (Ne.symm hne)]
        have h1 := hh.row q x hx
        split
        · rename_i hf
          rw [if_pos hf] at h1
          exact h1.stay hkeep hD
        · rename_i hf
          rw [if_neg hf] at h1
          obtain ⟨ys, a2, a3⟩ := h1
          refine ⟨ys, Ow.stay a2 fun g hg => hgr.block g (a2.lt g hg).2 fun e => ?_, a3.stay hkeep hD⟩
          exact hne (hh.rr r q _ x g hr hx rfl (by simpa using hf) e.symm hg)
    · rcases lk_cons hx with ⟨rfl, rfl⟩ | ⟨hne, hx⟩
      · rw [hVr] at hg
        rcases hnew g hg with e | e
        · exact hro g e
        · rw [e]
          exact .inl hh.below.size
      · rw [hV q (Ne.symm hne)] at hg
        exact hh.ro q x g hx hf hg
    · obtain ⟨x', hx', _⟩ := hlkB c x hx
      obtain ⟨y', hy', _⟩ := hlkB e y hy
      exact hh.bb c e x' y' hx' hy' he
    · obtain ⟨x', hx', _⟩ := hlkB c x hx
      rcases lk_cons hy with ⟨rfl, rfl⟩ | ⟨hne, hy⟩
      · rw [hVr] at hg
        rcases hnew g hg with e | e
        · exact hh.br c r x' _ g hx' hr rfl e
        · have := hblt c x' hx'
          omega
      · rw [hV q (Ne.symm hne)] at hg
        exact hh.br c q x' y g hx' hy hf hg
    · have hold : ∀ q x g, q ≠ r → lk q R = some x → x.fz = false → obk (V q) = some g → obk v' ≠ some g := fun q x g hq hx hf hg e => by
        rcases hnew g e with e | e
        · exact hq (hh.rr q r x _ g hx hr hf rfl hg e)
        · have h1 := hh.row q x hx
          rw [hf] at h1
          obtain ⟨ys, a2, _⟩ := h1
          have := (a2.lt g hg).2
          omega
      rcases lk_cons hx with ⟨rfl, rfl⟩ | ⟨hne, hx⟩
      · rcases lk_cons hy with ⟨rfl, rfl⟩ | ⟨hne', hy⟩
        · rfl
        · rw [hVr] at hg
          rw [hV p (Ne.symm hne')] at hg'
          exact absurd hg (hold p y g (Ne.symm hne') hy hf' hg')
      · rcases lk_cons hy with ⟨rfl, rfl⟩ | ⟨hne', hy⟩
        · rw [hVr] at hg'
          rw [hV q (Ne.symm hne)] at hg
          exact absurd hg' (hold q x g (Ne.symm hne) hx hf hg)
        · rw [hV q (Ne.symm hne)] at hg
          rw [hV p (Ne.symm hne')] at hg'
          exact hh.rr q p x y g hx hy hf hf' hg hg'
    · rw [getD_put a d t _ (by rw [hrel.size]; exact blt_lt hn)]
      rcases lk_cons hx with ⟨rfl, rfl⟩ | ⟨hne, hx⟩
      · rw [if_pos rfl]
        exact hVr.symm
      · rw [if_neg hne]
        unfold killT at hx
        rw [lk_map (fun y : IV => y.kill r), Option.map_eq_some_iff] at hx
        obtain ⟨z0, hz0, rfl⟩ := hx
        exact ((hrel.tmp t z0 hz0).kill.newV hV (IV.nor_kill r z0)).stay hkeep hD
  have := hK _ _ (hE M V' _ _ hrel')
  unfold Oper.wp execOp
  simp only [ho, resolve, invoke, builtin, Sem.run_bind, Sem.run_pure, Result.andThen_ok, List.map_toArray, List.map_cons, List.map_nil, hxv, hyv, hrun]
  simp only [Oper.upon, hd]
  exact this
end
end Go.Proofs.YtagoikglbifhmaaGreatDoor
namespace Go.Proofs.YtagoikglbifhmaaGreatDoor
open Go.RowKit
def off (d : Nat) : TL → TL
  | [] => []
  | (j, x) :: l => bif Nat.beq j d then off d l else (j, x) :: off d l
section
variable {P : Program} {cx : Cx} {T T' T2 : TL} {B : BL} {R : RL}
end
end Go.Proofs.YtagoikglbifhmaaGreatDoor
namespace Go.Proofs.YtagoikglbifhmaaGreatDoor
open Go.RowKit
section
variable {P : Program} {cx : Cx} {T : TL} {B : BL} {R : RL}
def LentBr (ρ σ : Nat → Nat) (B : BL) : BL → Prop
  | [] => True
  | (b, x) :: l => lk (ρ b) B = some ⟨x.ty, x.cs.map (·.ren ρ σ)⟩ ∧ LentBr ρ σ B l
def LentRr (σ : Nat → Nat) (R : RL) : RL → Prop
  | [] => True
  | (r, x) :: l => lk (σ r) R = some x ∧ LentRr σ R l
theorem LentBr.get {ρ σ : Nat → Nat} : ∀ {B0 : BL} (_ : LentBr ρ σ B B0) {b : Nat} {x : Bx}, lk b B0 = some x → lk (ρ b) B = some ⟨x.ty, x.cs.map (·.ren ρ σ)⟩
  | (c, y) :: l, h, b, x, hx => by
    rcases lk_cons hx with ⟨rfl, rfl⟩ | ⟨_, hx⟩
    · exact h.1
    · exact LentBr.get h.2 hx
  | [], _, _, _, hx => by cases hx
theorem LentRr.get {σ : Nat → Nat} : ∀ {R0 : RL} (_ : LentRr σ R R0) {b : Nat} {x : Rw}, lk b R0 = some x → lk (σ b) R = some x
  | (c, y) :: l, h, b, x, hx => by
    rcases lk_cons hx with ⟨rfl, rfl⟩ | ⟨_, hx⟩
    · exact h.1
    · exact LentRr.get h.2 hx
  | [], _, _, _, hx => by cases hx
end
end Go.Proofs.YtagoikglbifhmaaGreatDoor
namespace Go.Proofs.YtagoikglbifhmaaGreatDoor
open Go.RowKit
section
variable {P : Program} {cx : Cx} {T : TL} {B : BL} {R : RL} {M : Nat → Nat} {V : Nat → Value} {o : Oper}
theorem EFx.more {gls gls' : List (Nat × List Value)} {f : FuncId} {ps : List Part} {Y : IV → Prop} (h : EFx P gls f ps Y) (hs : ∀ x, x ∈ gls → x ∈ gls') : EFx P gls' f ps Y := fun w D vs hD hG hp => h w D vs hD (fun g cs hg => hG g cs (hs _ hg)) hp
def EFw (P : Program) (cx : Cx) (f : FuncId) (ps : List Part) (y : IV) : Prop := ∀ w, Bex cx.bor cx.w0 w → ∀ (D : Nat → Prop) (vs : List Value), (∀ g, D g → g < w.heap.size) → GlOK cx.gl w → PsFit w D ps vs → Calls P f vs.toArray w (Gives w D (· = y))
theorem s_callw {f : FuncId} {xs : List Operand} {ts : Array TypeId} {ps : List Part} {y : IV} (ho : o.op = .call { callee := .value (.func f), args := xs.toArray, argTypes := ts }) (hc : callable P f = true) (hf : EFw P cx f ps y) (hx : KnA T xs ps) : LStep P cx B R o T y := fun M V w a hh ht => by
  have hrun : (execOp a.eval o).run P w = .ok (.enter f (xs.map a.eval).toArray) w := by
    have he : a.eval (.func f) = .func (.func f) #[] #[] := rfl
    simp [execOp, ho, resolve, he, Deferred.ofValue, invoke, run_callable hc]
  have hk : ∀ x z, x ∈ xs → Kn T x z → VR w (Dc cx B R M V w) M V z (a.eval x) := fun x z hm hkx => hkx w _ M V a fun t z' e hz => ht t z' (by
    subst e
    rw [ho]
    simp [Op.operands, Call.operands]
    exact hm) hz
  rw [hrun]
  refine ⟨rfl, (hf w hh.below (Dc cx B R M V w) _ (fun _ hg => hh.dlt hg) hh.glok (hx.fit hk)).mono fun _ _ ⟨v, y', h1, h2, h3, h4⟩ => ⟨v, h1, h3, ?_⟩⟩
  subst h2
  exact (h4 M V).stay (Keeps.refl _ _) fun _ hg => hh.new hg h3.size
end
end Go.Proofs.YtagoikglbifhmaaGreatDoor
namespace Go.Proofs.YtagoikglbifhmaaGreatDoor
open Go.RowKit
section
variable {P : Program} {cx : Cx} {T : TL} {B : BL} {R : RL} {o : Oper}
theorem s_callf {f : FuncId} {x : Operand} {xs : List Operand} {ts : Array TypeId} {ps : List Part} {y : IV} (ho : o.op = .call { callee := .value x, args := xs.toArray, argTypes := ts }) (hc : callable P f = true) (hxf : Kn T x (.is (.func (.func f) #[] #[]))) (hf : EF P cx.gl f ps y) (hx : KnA T xs ps) : LStep P cx B R o T y := fun M V w a hh ht => by
  have hkk : ∀ y z, y ∈ x :: xs → Kn T y z → VR w (Dc cx B R M V w) M V z (a.eval y) := fun y z hm hkx => hkx w _ M V a fun t z' e hz => ht t z' (by
    subst e
    rw [ho]
    simpa [Op.operands, Call.operands] using hm) hz
  have he : a.eval x = .func (.func f) #[] #[] := (hkk x _ (by simp) hxf).is_eq
  have hrun : (execOp a.eval o).run P w = .ok (.enter f (xs.map a.eval).toArray) w := by
    simp [execOp, ho, resolve, he, Deferred.ofValue, invoke, run_callable hc]
  rw [hrun]
  refine ⟨rfl, (calls_at hh (fun x z hm hkx => hkk x z (by simp [hm]) hkx) hx hf).mono fun _ _ ⟨v, y', h1, h2, h3, h4⟩ => ⟨v, h1, h3, h2 ▸ h4⟩⟩
end
end Go.Proofs.YtagoikglbifhmaaGreatDoor
namespace Go.Proofs.YtagoikglbifhmaaGreatDoor
open Go.RowKit
section
variable {P : Program} {cx : Cx} {T : TL} {B : BL} {R : RL} {M : Nat → Nat} {V : Nat → Value}
theorem Rel.own_new {a : Act} {w w' : World} (hrel : Rel cx T B R M V a w) (hb : Below w.heap.size w w') {ty k n : Nat} {v : Value} {cs : List Value} (hown : w'.ownsRow w.heap.size ty k v n cs) (r : Nat) (hT : norT r T = true) (hB : norB r B = true) (hty : Nat.blt ty 1000000 = true) : ∃ V', V' r = v ∧ Rel cx T B ((r, ⟨ty, k, n, cs.map .cell, false⟩) :: R) M V' a w' := by
  have hh := hrel.heap
  have hsz := hh.below.size
  let V' : Nat → Value := fun q => if q = r then v else V q
  have hVr : V' r = v := if_pos rfl
  have hV : ∀ q, q ≠ r → V' q = V q := fun q h => if_neg h
  have hlt : ∀ g, obk v = some g → w.heap.size ≤ g ∧ g < w'.heap.size := fun g hg => hown.lt g ((obk_row hown).symm.trans hg)
  have hown0 : w'.ownsRow 0 ty k v n cs := by
    refine ⟨hown.1, ?_⟩
    rcases hown.2 with h | ⟨g, cap, cur, h1, _, h3⟩
    · exact .inl h
    · exact .inr ⟨g, cap, cur, h1, Nat.zero_le _, h3⟩
  have hold : ∀ q x g, lk q R = some x → x.fz = false → obk (V q) = some g → g < w.heap.size := fun q x g hx hf hg => by
    have h1 := hh.row q x hx
    rw [hf] at h1
    obtain ⟨ys, a2, _⟩ := h1
    exact (a2.lt g hg).2
  have hoB : ∀ b x, lk b B = some x → M b < w.heap.size := fun b x hx => by
    obtain ⟨_, cs, h2, _⟩ := hh.box b x hx
    exact h2.lt
  have hk := hh.keeps hb
  have hD : ∀ g, Dc cx B R M V w g → Dc cx B ((r, ⟨ty, k, n, cs.map .cell, false⟩) :: R) M V' w' g := fun g hg => by
    have hgl := hh.dlt hg
    rcases hg with hg | ⟨a1, a2, a3, a4⟩
    · exact .inl hg
    · refine .inr ⟨a1, by have := hb.size; omega, a3, fun q x hx hf e => ?_⟩
      rcases lk_cons hx with ⟨rfl, _⟩ | ⟨hne, hx⟩
      · rw [hVr] at e
        have := (hlt g e).1
        omega
      · rw [hV q (Ne.symm hne)] at e
        exact a4 q x hx hf e
  refine ⟨V', hVr, hrel.size, hrel.defers, ⟨hh.below.step hb, hh.d0, hh.bl, hh.gl, fun b x hx => ?_, fun q x hx => ?_, fun q x g hx hf hg => ?_, hh.pin, hh.bb, fun b q x y g hx hy hf hg => ?_, fun q p x y g hx hy hf hf' hg hg' => ?_⟩, fun t x hx => ?_⟩
  · obtain ⟨a1, cs, a2, a3⟩ := hh.box b x hx
    have hn := List.all_eq_true.1 hB _ (lk_mem hx)
    have a4 : CFit w (Dc cx B R M V w) M V' x.cs cs := ⟨a3.1, fun j y v h1 h2 => ⟨(a3.2 j y v h1 h2).1.newV hV (List.all_eq_true.1 hn _ (List.mem_of_getElem? h1)), (a3.2 j y v h1 h2).2⟩⟩
    exact ⟨a1, cs, a2.kept hb, a4.stay hk hD⟩
  · rcases lk_cons hx with ⟨rfl, rfl⟩ | ⟨hne, hx⟩
    · rw [hVr]
      exact (⟨cs, .inl ⟨hty, hown0⟩, fits_cells _ _ _⟩ : Gx _ _ _ _ _ _ _ _)
    · rw [hV q (Ne.symm hne)]
      have h1 := hh.row q x hx
      split
      · rename_i hf
        rw [if_pos hf] at h1
        exact h1.stay hk hD
      · rename_i hf
        rw [if_neg hf] at h1
        obtain ⟨xs, a2, a3⟩ := h1
        exact ⟨xs, Ow.stay a2 fun g hg => hb.block g (a2.lt g hg).2, a3.stay hk hD⟩
  · rcases lk_cons hx with ⟨rfl, rfl⟩ | ⟨hne, hx⟩
    · rw [hVr] at hg
      have := (hlt g hg).1
      exact .inl (by omega)
    · rw [hV q (Ne.symm hne)] at hg
      exact hh.ro q x g hx hf hg
  · rcases lk_cons hy with ⟨rfl, rfl⟩ | ⟨hne, hy⟩
    · rw [hVr] at hg
      have := (hlt g hg).1
      have := hoB b x hx
      omega
    · rw [hV q (Ne.symm hne)] at hg
      exact hh.br b q x y g hx hy hf hg
  · rcases lk_cons hx with ⟨rfl, rfl⟩ | ⟨hne, hx⟩
    · rcases lk_cons hy with ⟨rfl, rfl⟩ | ⟨hne', hy⟩
      · rfl
      · rw [hVr] at hg
        rw [hV p (Ne.symm hne')] at hg'
        have := (hlt g hg).1
        have := hold p y g hy hf' hg'
        omega
    · rcases lk_cons hy with ⟨rfl, rfl⟩ | ⟨hne', hy⟩
      · rw [hVr] at hg'
        rw [hV q (Ne.symm hne)] at hg
        have := (hlt g hg').1
        have := hold q x g hx hf hg
        omega
      · rw [hV q (Ne.symm hne)] at hg
        rw [hV p (Ne.symm hne')] at hg'
        exact hh.rr q p x y g hx hy hf hf' hg hg'
  · exact ((hrel.tmp t x hx).newV hV (List.all_eq_true.1 hT _ (lk_mem hx))).stay hk hD
end
end Go.Proofs.YtagoikglbifhmaaGreatDoor
