/- Part 11 of what the last text of this claim is proved by: walks over the program, and the math behind them. Conditions: as each theorem says. -/
import Derived.Test.YtagoikglbifhmaaGreatDoorPA10
import Derived.Test.YtagoikglbifhmaaGreatDoorProg
import Derived.Laws.StructEq
namespace Go.Proofs.YtagoikglbifhmaaGreatDoor
open Go.RowKit
theorem flatf_one (l : List (Int × Vl)) (x : Int × Vl) : (l ++ [x]).flatMap fieldDats = l.flatMap fieldDats ++ (.cell (.int .i64 x.1) :: vd x.2) := by rw [List.flatMap_append, ← fieldDats_vd]; simp
theorem flatp_one (l : List (Vl × Vl)) (x : Vl × Vl) : (l ++ [x]).flatMap pairDats = l.flatMap pairDats ++ (vd x.1 ++ vd x.2) := by rw [List.flatMap_append, ← pairDats_vd]; simp
abbrev ofB (v : Vl) : BL := [(1, ⟨27, bcs (vd v)⟩), (2, ⟨40, zB⟩), (3, ⟨40, [.is (.int .i64 v.kind), .is (.int .u64 (v.num : Int)), .is (.string (str v.text)), .own 100, .is (.string (str v.rest)), .own 101, .own 102]⟩)]
abbrev ofR (v : Vl) (f l p : Nat) : RL := [(100, ⟨80, 8, f, (v.fields.take f).flatMap fieldDats, false⟩), (101, ⟨40, 7, l, (v.list.take l).flatMap Vl.dats, false⟩), (102, ⟨84, 14, p, (v.pairs.take p).flatMap pairDats, false⟩)]
set_option maxRecDepth 100000 in
set_option maxHeartbeats 4000000 in
theorem of_step (v : Vl) (hn : vnodes v ≤ 1000000) (ih : ∀ x ∈ rkids v, EF Tryz.prog [] 12 [.many (vd x)] (.part (.many (vd x)))) : EF Tryz.prog [] 12 [.many (vd v)] (.part (.many (vd v))) := by
  have hlen := rkids_len v hn
  have ihf : ∀ f ∈ v.fields, f.2 ∈ rkids v := fun f h => by unfold rkids; exact List.mem_append_left _ (List.mem_append_right _ (List.mem_map.2 ⟨f, h, rfl⟩))
  have ihl : ∀ f ∈ v.list, f ∈ rkids v := fun f h => by unfold rkids; exact List.mem_append_left _ (List.mem_append_left _ h)
  have ihp : ∀ p ∈ v.pairs, p.1 ∈ rkids v ∧ p.2 ∈ rkids v := fun p h => by
    unfold rkids gpairs
    exact ⟨List.mem_append_right _ (List.mem_flatMap.2 ⟨p, h, by simp⟩), List.mem_append_right _ (List.mem_flatMap.2 ⟨p, h, by simp⟩)⟩
  refine ef_enter 74 Tryz.func12 rfl rfl rfl fun w D => ?_
  try refine e_fl ?_
  refine e_list ?_
  refine e_box 1 rfl rfl rfl rfl (kn rfl) rfl rfl rfl rfl ?_
  refine e_alloc 2 [.is (.int .i64 0), .is (.int .u64 0), .is (.string ⟨#[]⟩), .is (.slice none 0 0), .is (.string ⟨#[]⟩), .is (.slice none 0 0), .is (.slice none 0 0)] rfl rfl rfl rfl zr_40 (fun w D M V => ⟨rfl, fun j x v h1 h2 => cfit_is _ h1 h2 rfl⟩) rfl rfl rfl rfl ?_
  refine e_nil ?_
  try refine e_fl ?_
  refine e_list ?_
  refine l_op (s_faddr_box rfl (kn rfl) off_27_0) ?_
  refine l_op (s_load1_box rfl (kn rfl) rfl rfl one_3) ?_
  refine l_op (s_faddr_box rfl (kn rfl) off_27_1) ?_
  refine l_op (s_load1_box rfl (kn rfl) rfl rfl one_22) ?_
  refine l_op (s_faddr_box rfl (kn rfl) off_27_2) ?_
  refine l_op (s_load1_box rfl (kn rfl) rfl rfl one_9) ?_
  refine l_op (s_faddr_box rfl (kn rfl) off_27_4) ?_
  refine l_op (s_load1_box rfl (kn rfl) rfl rfl one_9) ?_
  refine l_op (s_build (ds := [_, _, _, _, _, _, _]) [(0, _), (1, _), (2, _), (4, _)] rfl ⟨rfl, (kn rfl), ⟨rfl, (kn rfl), ⟨rfl, (kn rfl), ⟨rfl, (kn rfl), trivial⟩⟩⟩⟩ rfl pl_40 zr_40 (fun w D => .cons (.cell _) (.cons (.cell _) (.cons (.cell _) (.cons (.cell _) (.cons (.cell _) (.cons (.cell _) (.cons (.cell _) (.nil _ _)))))))) rfl) ?_
  refine e_alloc 3 [.is (.int .i64 0), .is (.int .u64 0), .is (.string ⟨#[]⟩), .is (.slice none 0 0), .is (.string ⟨#[]⟩), .is (.slice none 0 0), .is (.slice none 0 0)] rfl rfl rfl rfl zr_40 (fun w D M V => ⟨rfl, fun j x v h1 h2 => cfit_is _ h1 h2 rfl⟩) rfl rfl rfl rfl ?_
  refine e_storew rfl rfl rfl (kn rfl) rfl (kn rfl) rfl rfl sz_40 ?_
  refine e_nil ?_
  try refine e_fl ?_
  refine e_row_cell 3 3 100 80 8 rfl rfl rfl rfl rfl ?_
  refine e_row_cell 3 5 101 40 7 rfl rfl rfl rfl rfl ?_
  refine e_row_cell 3 6 102 84 14 rfl rfl rfl rfl rfl ?_
  refine e_plain (w_op rfl rfl rfl (s_faddr_box rfl (kn rfl) off_27_3) (w_op rfl rfl rfl (s_load1_box rfl (kn rfl) rfl rfl one_23) (w_op rfl rfl rfl (s_len rfl (kn rfl) sle_23) (w_mv rfl rfl rfl rfl rfl .nil)))) ?_
  try refine e_fl ?_
  refine e_loop (ι := { k : Nat // k ≤ v.fields.length })
    (fun k => [(1, .box 1 0), (2, .box 2 0), (3, .box 3 0), (20, .part (.one (.row 8 v.fields.length (v.fields.flatMap fieldDats)))), (21, .is (.int .i64 (v.fields.length : Int))), (22, .is (.int .i64 (k.1 : Int)))])
    (fun _ => ofB v) (fun k => ofR v k.1 0 0) (fun k => v.fields.length - k.1) ⟨0, by omega⟩
    (fun K => e_sub ⟨s_t, s_t, s_t, s_t, s_t, s_t, trivial⟩ ⟨s_b, s_b, s_b, trivial⟩ ⟨rfl, rfl, rfl, trivial⟩) ?_
  rintro ⟨k, hk⟩
  dsimp only at hk ⊢
  try refine e_fl ?_
  refine e_plain (w_op rfl rfl rfl (s_bin rfl (kn rfl) (kn rfl) v_lss) .nil) ?_
  try refine e_fl ?_
  refine e_cond rfl (fun h => ?_) (fun h => ?_)
  · have hlt : k < v.fields.length := by have := of_decide_eq_true h; omega
    obtain ⟨x, hx⟩ : ∃ x, v.fields[k]? = some x := ⟨_, List.getElem?_eq_getElem hlt⟩
    have htk : v.fields.take (k + 1) = v.fields.take k ++ [x] := by rw [List.take_add_one, hx]; rfl
    try refine e_fl ?_
    refine e_list ?_
    refine l_op (s_index rfl (kn rfl) (kn rfl) (by omega) hx fieldDats_len sle_23 esz_23 (fieldDats_vd x)) ?_
    refine l_op (s_loadn_ref rfl (kn rfl) agg_66 sz_66) ?_
    refine e_alloc 5 [.is (.int .i64 0), .is (.int .i64 0), .is (.int .u64 0), .is (.string ⟨#[]⟩), .is (.slice none 0 0), .is (.string ⟨#[]⟩), .is (.slice none 0 0), .is (.slice none 0 0)] rfl rfl rfl rfl zr_66 (fun w D M V => ⟨rfl, fun j x v h1 h2 => cfit_is _ h1 h2 rfl⟩) rfl rfl rfl rfl ?_
    refine e_storew rfl rfl rfl (kn rfl) rfl (kn rfl) rfl rfl sz_66 ?_
    refine e_nil ?_
    try refine e_fl ?_
    refine e_draw_tail 9 mixed (by kernel_rfl) (w_op rfl rfl rfl (s_faddr_box rfl (kn rfl) off_40_3) (w_op rfl rfl rfl (s_load1_box rfl (kn rfl) rfl rfl one_36) (w_op rfl rfl rfl (s_faddr_box rfl (kn rfl) off_66_0) (w_op rfl rfl rfl (s_load1_box rfl (kn rfl) rfl rfl one_3) (w_op rfl rfl rfl (s_faddr_box rfl (kn rfl) off_66_1) (w_op rfl rfl rfl (s_loadn_box (ds := [_, _, _, _, _, _, _]) 7 rfl (kn rfl) rfl rfl agg_27 sz_27 rfl) (w_op rfl rfl rfl (s_call rfl (by kernel_rfl) (ih x.2 (ihf x (List.mem_of_getElem? hx))) ⟨(kn rfl), trivial⟩) (w_op rfl rfl rfl (s_build (ds := [_, _, _, _, _, _, _, _]) [(0, _), (1, _)] rfl ⟨rfl, (kn rfl), ⟨rfl, (kn rfl), trivial⟩⟩ rfl pl_80 zr_80 (fun w D => .cons (.cell _) (.cons (.cell _) (.cons (.cell _) (.cons (.cell _) (.cons (.cell _) (.cons (.cell _) (.cons (.cell _) (.cons (.cell _) (.nil _ _))))))))) rfl) (w_op rfl rfl rfl (s_buildSlice (ds := [_, _, _, _, _, _, _, _]) [(0, _)] rfl ⟨rfl, (kn rfl), trivial⟩ rfl sl_36 sz_80 zr_80 (fun w D => .cons (.cell _) (.cons (.cell _) (.cons (.cell _) (.cons (.cell _) (.cons (.cell _) (.cons (.cell _) (.cons (.cell _) (.cons (.cell _) (.nil _ _))))))))) rfl rfl rfl rfl rfl) .nil))))))))) ?_
    refine e_append rfl rfl rfl rfl (kn rfl) rfl (kn rfl) sl_36 ap_36 rfl rfl (by first | omega | (dsimp only; omega) | omega) (by first | omega | (dsimp only; omega) | omega) ?_
    refine l_op (s_faddr_box rfl (kn rfl) off_40_3) ?_
    refine e_store_own rfl rfl rfl (kn rfl) rfl (kn rfl) rfl rfl sz_36 rfl ?_
    refine e_nil ?_
    try refine e_fl ?_
    refine e_plain (w_op rfl rfl rfl (s_bin rfl (kn rfl) (kn rfl) (v_add64 (by first | omega | (dsimp only; omega) | omega))) (w_mv rfl rfl rfl rfl rfl .nil)) ?_
    try refine e_fl ?_
    refine e_again ⟨k + 1, by omega⟩ (by dsimp only; omega) (fun K => e_sub ⟨s_t, s_t, s_t, s_t, s_t, s_t, trivial⟩ ⟨s_b, s_b, s_b, trivial⟩ ⟨rowEq rfl rfl (by rw [htk, flatf_one]; rfl), rfl, rfl, trivial⟩)
  obtain rfl : k = v.fields.length := by have := of_decide_eq_false h; omega
  try refine e_fl ?_
  refine e_plain (w_op rfl rfl rfl (s_faddr_box rfl (kn rfl) off_27_5) (w_op rfl rfl rfl (s_load1_box rfl (kn rfl) rfl rfl one_24) (w_op rfl rfl rfl (s_len rfl (kn rfl) sle_24) (w_mv rfl rfl rfl rfl rfl .nil)))) ?_
  try refine e_fl ?_
  refine e_loop (ι := { k : Nat // k ≤ v.list.length })
    (fun k => [(1, .box 1 0), (2, .box 2 0), (3, .box 3 0), (39, .part (lP v.list)), (40, .is (.int .i64 (v.list.length : Int))), (41, .is (.int .i64 (k.1 : Int)))])
    (fun _ => ofB v) (fun k => ofR v v.fields.length k.1 0) (fun k => v.list.length - k.1) ⟨0, by omega⟩
    (fun K => e_sub ⟨s_t, s_t, s_t, s_t, s_t, s_t, trivial⟩ ⟨s_b, s_b, s_b, trivial⟩ ⟨rfl, rfl, rfl, trivial⟩) ?_
  rintro ⟨k, hk⟩
  dsimp only at hk ⊢
  try refine e_fl ?_
  refine e_plain (w_op rfl rfl rfl (s_bin rfl (kn rfl) (kn rfl) v_lss) .nil) ?_
  try refine e_fl ?_
  refine e_cond rfl (fun h => ?_) (fun h => ?_)
  · have hlt : k < v.list.length := by have := of_decide_eq_true h; omega
    obtain ⟨x, hx⟩ : ∃ x, v.list[k]? = some x := ⟨_, List.getElem?_eq_getElem hlt⟩
    have htk : v.list.take (k + 1) = v.list.take k ++ [x] := by rw [List.take_add_one, hx]; rfl
    try refine e_fl ?_
    refine e_list ?_
    refine l_op (s_index rfl (kn rfl) (kn rfl) (by omega) hx Vl.dats_len sle_24 esz_24 (dats_vd x)) ?_
    refine l_op (s_loadn_ref rfl (kn rfl) agg_27 sz_27) ?_
    refine e_alloc 7 [.is (.int .i64 0), .is (.int .u64 0), .is (.string ⟨#[]⟩), .is (.slice none 0 0), .is (.string ⟨#[]⟩), .is (.slice none 0 0), .is (.slice none 0 0)] rfl rfl rfl rfl zr_27 (fun w D M V => ⟨rfl, fun j x v h1 h2 => cfit_is _ h1 h2 rfl⟩) rfl rfl rfl rfl ?_
    refine e_storew rfl rfl rfl (kn rfl) rfl (kn rfl) rfl rfl sz_27 ?_
    refine e_nil ?_
    try refine e_fl ?_
    refine e_draw_tail 5 mixed (by kernel_rfl) (w_op rfl rfl rfl (s_faddr_box rfl (kn rfl) off_40_5) (w_op rfl rfl rfl (s_load1_box rfl (kn rfl) rfl rfl one_37) (w_op rfl rfl rfl (s_loadn_box (ds := [_, _, _, _, _, _, _]) 7 rfl (kn rfl) rfl rfl agg_27 sz_27 rfl) (w_op rfl rfl rfl (s_call rfl (by kernel_rfl) (ih x (ihl x (List.mem_of_getElem? hx))) ⟨(kn rfl), trivial⟩) (w_op rfl rfl rfl (s_buildSlice (ds := [_, _, _, _, _, _, _]) [(0, _)] rfl ⟨rfl, (kn rfl), trivial⟩ rfl sl_37 sz_40 zr_40 (fun w D => .cons (.cell _) (.cons (.cell _) (.cons (.cell _) (.cons (.cell _) (.cons (.cell _) (.cons (.cell _) (.cons (.cell _) (.nil _ _)))))))) rfl rfl rfl rfl rfl) .nil))))) ?_
    refine e_append rfl rfl rfl rfl (kn rfl) rfl (kn rfl) sl_37 ap_37 rfl rfl (by first | omega | (dsimp only; omega) | omega) (by first | omega | (dsimp only; omega) | omega) ?_
    refine l_op (s_faddr_box rfl (kn rfl) off_40_5) ?_
    refine e_store_own rfl rfl rfl (kn rfl) rfl (kn rfl) rfl rfl sz_37 rfl ?_
    refine e_nil ?_
    try refine e_fl ?_
    refine e_plain (w_op rfl rfl rfl (s_bin rfl (kn rfl) (kn rfl) (v_add64 (by first | omega | (dsimp only; omega) | omega))) (w_mv rfl rfl rfl rfl rfl .nil)) ?_
    try refine e_fl ?_
    refine e_again ⟨k + 1, by omega⟩ (by dsimp only; omega) (fun K => e_sub ⟨s_t, s_t, s_t, s_t, s_t, s_t, trivial⟩ ⟨s_b, s_b, s_b, trivial⟩ ⟨rfl, rowEq rfl rfl (by rw [htk, flat_one]; rfl), rfl, trivial⟩)
  obtain rfl : k = v.list.length := by have := of_decide_eq_false h; omega
  try refine e_fl ?_
  refine e_plain (w_op rfl rfl rfl (s_faddr_box rfl (kn rfl) off_27_6) (w_op rfl rfl rfl (s_load1_box rfl (kn rfl) rfl rfl one_25) (w_op rfl rfl rfl (s_len rfl (kn rfl) sle_25) (w_mv rfl rfl rfl rfl rfl .nil)))) ?_
  try refine e_fl ?_
  refine e_loop (ι := { k : Nat // k ≤ v.pairs.length })
    (fun k => [(1, .box 1 0), (2, .box 2 0), (3, .box 3 0), (54, .part (.one (.row 14 v.pairs.length (v.pairs.flatMap pairDats)))), (55, .is (.int .i64 (v.pairs.length : Int))), (56, .is (.int .i64 (k.1 : Int)))])
    (fun _ => ofB v) (fun k => ofR v v.fields.length v.list.length k.1) (fun k => v.pairs.length - k.1) ⟨0, by omega⟩
    (fun K => e_sub ⟨s_t, s_t, s_t, s_t, s_t, s_t, trivial⟩ ⟨s_b, s_b, s_b, trivial⟩ ⟨rfl, rfl, rfl, trivial⟩) ?_
  rintro ⟨k, hk⟩
  dsimp only at hk ⊢
  try refine e_fl ?_
  refine e_plain (w_op rfl rfl rfl (s_bin rfl (kn rfl) (kn rfl) v_lss) .nil) ?_
  try refine e_fl ?_
  refine e_cond rfl (fun h => ?_) (fun h => ?_)
  · have hlt : k < v.pairs.length := by have := of_decide_eq_true h; omega
    obtain ⟨x, hx⟩ : ∃ x, v.pairs[k]? = some x := ⟨_, List.getElem?_eq_getElem hlt⟩
    have htk : v.pairs.take (k + 1) = v.pairs.take k ++ [x] := by rw [List.take_add_one, hx]; rfl
    try refine e_fl ?_
    refine e_list ?_
    refine l_op (s_index rfl (kn rfl) (kn rfl) (by omega) hx pairDats_len sle_25 esz_25 (pairDats_vd x)) ?_
    refine l_op (s_loadn_ref rfl (kn rfl) agg_82 sz_82) ?_
    refine e_alloc 9 [.is (.int .i64 0), .is (.int .u64 0), .is (.string ⟨#[]⟩), .is (.slice none 0 0), .is (.string ⟨#[]⟩), .is (.slice none 0 0), .is (.slice none 0 0), .is (.int .i64 0), .is (.int .u64 0), .is (.string ⟨#[]⟩), .is (.slice none 0 0), .is (.string ⟨#[]⟩), .is (.slice none 0 0), .is (.slice none 0 0)] rfl rfl rfl rfl zr_82 (fun w D M V => ⟨rfl, fun j x v h1 h2 => cfit_is _ h1 h2 rfl⟩) rfl rfl rfl rfl ?_
    refine e_storew rfl rfl rfl (kn rfl) rfl (kn rfl) rfl rfl sz_82 ?_
    refine e_nil ?_
    try refine e_fl ?_
    refine e_draw_tail 10 mixed (by kernel_rfl) (w_op rfl rfl rfl (s_faddr_box rfl (kn rfl) off_40_6) (w_op rfl rfl rfl (s_load1_box rfl (kn rfl) rfl rfl one_38) (w_op rfl rfl rfl (s_faddr_box rfl (kn rfl) off_82_0) (w_op rfl rfl rfl (s_loadn_box (ds := [_, _, _, _, _, _, _]) 7 rfl (kn rfl) rfl rfl agg_27 sz_27 rfl) (w_op rfl rfl rfl (s_call rfl (by kernel_rfl) (ih x.1 (ihp x (List.mem_of_getElem? hx)).1) ⟨(kn rfl), trivial⟩) (w_op rfl rfl rfl (s_faddr_box rfl (kn rfl) off_82_1) (w_op rfl rfl rfl (s_loadn_box (ds := [_, _, _, _, _, _, _]) 7 rfl (kn rfl) rfl rfl agg_27 sz_27 rfl) (w_op rfl rfl rfl (s_call rfl (by kernel_rfl) (ih x.2 (ihp x (List.mem_of_getElem? hx)).2) ⟨(kn rfl), trivial⟩) (w_op rfl rfl rfl (s_build (ds := [_, _, _, _, _, _, _, _, _, _, _, _, _, _]) [(0, _), (1, _)] rfl ⟨rfl, (kn rfl), ⟨rfl, (kn rfl), trivial⟩⟩ rfl pl_84 zr_84 (fun w D => .cons (.cell _) (.cons (.cell _) (.cons (.cell _) (.cons (.cell _) (.cons (.cell _) (.cons (.cell _) (.cons (.cell _) (.cons (.cell _) (.cons (.cell _) (.cons (.cell _) (.cons (.cell _) (.cons (.cell _) (.cons (.cell _) (.cons (.cell _) (.nil _ _))))))))))))))) rfl) (w_op rfl rfl rfl (s_buildSlice (ds := [_, _, _, _, _, _, _, _, _, _, _, _, _, _]) [(0, _)] rfl ⟨rfl, (kn rfl), trivial⟩ rfl sl_38 sz_84 zr_84 (fun w D => .cons (.cell _) (.cons (.cell _) (.cons (.cell _) (.cons (.cell _) (.cons (.cell _) (.cons (.cell _) (.cons (.cell _) (.cons (.cell _) (.cons (.cell _) (.cons (.cell _) (.cons (.cell _) (.cons (.cell _) (.cons (.cell _) (.cons (.cell _) (.nil _ _))))))))))))))) rfl rfl rfl rfl rfl) .nil)))))))))) ?_
    refine e_append rfl rfl rfl rfl (kn rfl) rfl (kn rfl) sl_38 ap_38 rfl rfl (by first | omega | (dsimp only; omega) | omega) (by first | omega | (dsimp only; omega) | omega) ?_
    refine l_op (s_faddr_box rfl (kn rfl) off_40_6) ?_
    refine e_store_own rfl rfl rfl (kn rfl) rfl (kn rfl) rfl rfl sz_38 rfl ?_
    refine e_nil ?_
    try refine e_fl ?_
    refine e_plain (w_op rfl rfl rfl (s_bin rfl (kn rfl) (kn rfl) (v_add64 (by first | omega | (dsimp only; omega) | omega))) (w_mv rfl rfl rfl rfl rfl .nil)) ?_
    try refine e_fl ?_
    refine e_again ⟨k + 1, by omega⟩ (by dsimp only; omega) (fun K => e_sub ⟨s_t, s_t, s_t, s_t, s_t, s_t, trivial⟩ ⟨s_b, s_b, s_b, trivial⟩ ⟨rfl, rfl, rowEq rfl rfl (by rw [htk, flatp_one]; rfl), trivial⟩)
  obtain rfl : k = v.pairs.length := by have := of_decide_eq_false h; omega
  try refine e_fl ?_
  refine e_freeze_cell 3 3 100 rfl rfl rfl rfl rfl ?_
  refine e_freeze_cell 3 5 101 rfl rfl rfl rfl rfl ?_
  refine e_freeze_cell 3 6 102 rfl rfl rfl rfl rfl ?_
  dsimp only
  rw [List.take_length, List.take_length, List.take_length]
  refine e_list ?_
  refine l_op (s_loadn_box (ds := [_, _, _, _, _, _, _]) 7 rfl (kn rfl) rfl rfl agg_40 sz_40 rfl) ?_
  refine e_storew rfl rfl rfl (kn rfl) rfl (kn rfl) rfl rfl sz_40 ?_
  refine e_nil ?_
  try refine e_fl ?_
  exact e_return rfl rfl (.cell rfl rfl rfl agg_40 sz_40 rfl (.nil)) (Imp.of_eq rfl) rfl
theorem of_ef (v : Vl) : vnodes v ≤ 1000000 → EF Tryz.prog [] 12 [.many (vd v)] (.part (.many (vd v))) :=
  rkids_ind (P := fun v => vnodes v ≤ 1000000 → EF Tryz.prog [] 12 [.many (vd v)] (.part (.many (vd v)))) (fun v ih hn => of_step v hn fun x hx => ih x hx (by have := (rkids_mem hx).2.2; omega)) v
end Go.Proofs.YtagoikglbifhmaaGreatDoor
namespace Go.Proofs.YtagoikglbifhmaaGreatDoor
open Go.RowKit
theorem v_dec {P : Program} {t : TypeId} (d : Nat) (h : d ≤ 1000) : BinV P .sub t (.int .i64 ((d + 1 : Nat) : Int)) (.int .i64 1) (.int .i64 (d : Int)) := by
  have := v_sub64 (P := P) (t := t) (m := ((d + 1 : Nat) : Int)) (n := 1) (by omega)
  rwa [show ((d + 1 : Nat) : Int) - 1 = (d : Int) by omega] at this
theorem gstep_yes {g : Vl → Int → Int} {l : Int} {x : Vl} (h : 0 ≤ l) : gstep g l x = g x l := if_pos h
theorem gstep_no {g : Vl → Int → Int} {l : Int} {x : Vl} (h : ¬ 0 ≤ l) : gstep g l x = l := if_neg h
def GreatE (d : Nat) : Prop := ∀ (v : Vl) (left : Int), v.Fine → 0 ≤ left → left ≤ 1000000 → EF Tryz.prog [] 24 [.many (vd v), iP left, iP (d : Int)] (.part (iP (vgreat d v left)))
set_option maxRecDepth 100000 in
theorem great_zero : GreatE 0 := by
  intro v left hv h0 h1
  refine ef_enter 85 Tryz.func24 rfl rfl rfl fun w D => ?_
  try refine e_fl ?_
  refine e_list ?_
  refine e_box 3 rfl rfl rfl rfl (kn rfl) rfl rfl rfl rfl ?_
  refine l_as ?_
  refine e_nil ?_
  try refine e_fl ?_
  refine e_plain (w_mv rfl rfl rfl rfl rfl (w_op rfl rfl rfl (s_bin rfl (kn rfl) (kn rfl) v_eql) (w_mv rfl rfl rfl rfl rfl (Walk.gd _ rfl rfl rfl (fun h => s_faddr_box rfl (kn rfl) off_27_2) (Walk.gd _ rfl rfl rfl (fun h => s_load1_box rfl (kn_opt rfl h) rfl rfl one_9) (Walk.gd _ rfl rfl rfl (fun h => s_slen rfl (kn_opt rfl h) str_9) (Walk.gd _ rfl rfl rfl (fun h => s_bin rfl (kn_opt rfl h) (kn rfl) v_gtr) (w_op rfl rfl rfl (s_or rfl (kn rfl) (fun hb => kn_opt rfl hb)) (w_mv rfl rfl rfl rfl rfl (Walk.gd _ rfl rfl rfl (fun h => s_faddr_box rfl (kn rfl) off_27_4) (Walk.gd _ rfl rfl rfl (fun h => s_load1_box rfl (kn_opt rfl h) rfl rfl one_9) (Walk.gd _ rfl rfl rfl (fun h => s_slen rfl (kn_opt rfl h) str_9) (Walk.gd _ rfl rfl rfl (fun h => s_bin rfl (kn_opt rfl h) (kn rfl) v_gtr) (w_op rfl rfl rfl (s_or rfl (kn rfl) (fun hb => kn_opt rfl hb)) .nil)))))))))))))) ?_
  try refine e_fl ?_
  refine e_cond rfl (fun h => ?_) (fun h => ?_)
  · try refine e_fl ?_
    refine e_plain (w_as rfl rfl rfl rfl rfl .nil) ?_
    try refine e_fl ?_
    exact e_return rfl rfl (.tmp (kn rfl) (.nil)) (Imp.of_eq rfl) rfl
  · simp at h
set_option maxRecDepth 100000 in
set_option maxHeartbeats 4000000 in
theorem great_succ (d : Nat) (hd : d ≤ 1000) (ih : GreatE d) : GreatE (d + 1) := by
  intro v left hv h0 h1
  have hmax : maxLen ≤ 9223372036854775807 := by decide
  obtain ⟨a1, a2, a3, a4, a5, a6, a7, a8⟩ := hv.bounds
  have hgb : ∀ (xs : List Vl) (l : Int), -1 ≤ l → -1 ≤ xs.foldl (gstep (vgreat d)) l ∧ xs.foldl (gstep (vgreat d)) l ≤ l := fun xs l h => gfold_bd (vgreat d) (fun x l hl => vgreat_bd d x l hl) xs l h
  have e : ¬ (400 < v.text.length ∨ 400 < v.rest.length) → vgreat (d + 1) v left = (gpairs v.pairs).foldl (gstep (vgreat d)) (v.list.foldl (gstep (vgreat d)) ((v.fields.map (·.2)).foldl (gstep (vgreat d)) (left - 1))) := fun h => by
    rw [vgreat, if_neg h, gkids, List.foldl_append, List.foldl_append]
    rfl
  refine ef_enter 85 Tryz.func24 rfl rfl rfl fun w D => ?_
  try refine e_fl ?_
  refine e_list ?_
  refine e_box 3 rfl rfl rfl rfl (kn rfl) rfl rfl rfl rfl ?_
  refine l_as ?_
  refine e_nil ?_
  try refine e_fl ?_
  refine e_plain (w_mv rfl rfl rfl rfl rfl (w_op rfl rfl rfl (s_bin rfl (kn rfl) (kn rfl) v_eql) (w_mv rfl rfl rfl rfl rfl (Walk.gd _ rfl rfl rfl (fun h => s_faddr_box rfl (kn rfl) off_27_2) (Walk.gd _ rfl rfl rfl (fun h => s_load1_box rfl (kn_opt rfl h) rfl rfl one_9) (Walk.gd _ rfl rfl rfl (fun h => s_slen rfl (kn_opt rfl h) str_9) (Walk.gd _ rfl rfl rfl (fun h => s_bin rfl (kn_opt rfl h) (kn rfl) v_gtr) (w_op rfl rfl rfl (s_or rfl (kn rfl) (fun hb => kn_opt rfl hb)) (w_mv rfl rfl rfl rfl rfl (Walk.gd _ rfl rfl rfl (fun h => s_faddr_box rfl (kn rfl) off_27_4) (Walk.gd _ rfl rfl rfl (fun h => s_load1_box rfl (kn_opt rfl h) rfl rfl one_9) (Walk.gd _ rfl rfl rfl (fun h => s_slen rfl (kn_opt rfl h) str_9) (Walk.gd _ rfl rfl rfl (fun h => s_bin rfl (kn_opt rfl h) (kn rfl) v_gtr) (w_op rfl rfl rfl (s_or rfl (kn rfl) (fun hb => kn_opt rfl hb)) .nil)))))))))))))) ?_
  try refine e_fl ?_
  refine e_cond rfl (fun h => ?_) (fun h => ?_)
  · have e2 : vgreat (d + 1) v left = -1 := by
      simp only [Bool.or_eq_true, decide_eq_true_eq] at h
      rw [vgreat]
      exact if_pos (by omega)
    try refine e_fl ?_
    refine e_plain (w_as rfl rfl rfl rfl rfl .nil) ?_
    try refine e_fl ?_
    exact e_return rfl rfl (.tmp (kn rfl) (.nil)) (Imp.of_eq (by rw [e2]; rfl)) rfl
  have e2 := e (by
    simp only [Bool.or_eq_false_iff, decide_eq_false_iff_not] at h
    omega)
  clear e h
  try refine e_fl ?_
  refine e_plain (w_mv rfl rfl rfl rfl rfl (w_op rfl rfl rfl (s_bin rfl (kn rfl) (kn rfl) (v_sub64 (by first | omega | (dsimp only; omega) | omega))) (w_as rfl rfl rfl rfl rfl .nil))) ?_
  try refine e_fl ?_
  refine e_plain (w_op rfl rfl rfl (s_faddr_box rfl (kn rfl) off_27_3) (w_op rfl rfl rfl (s_load1_box rfl (kn rfl) rfl rfl one_23) (w_op rfl rfl rfl (s_len rfl (kn rfl) sle_23) (w_mv rfl rfl rfl rfl rfl .nil)))) ?_
  try refine e_fl ?_
  refine e_loop (ι := { k : Nat // k ≤ (v.fields).length })
    (fun k => [(1, .is (.int .i64 ((fun k => ((v.fields.map (·.2)).take k).foldl (gstep (vgreat d)) (left - 1)) k.1))), (2, .is (.int .i64 ((d + 1 : Nat) : Int))), (3, .box 3 0), (30, .part (.one (.row 8 (v.fields).length ((v.fields).flatMap fieldDats)))), (31, .is (.int .i64 ((v.fields).length : Int))), (32, .is (.int .i64 (k.1 : Int)))])
    (fun _ => [(3, ⟨27, bcs (vd v)⟩)]) (fun _ => []) (fun k => (v.fields).length - k.1) ⟨0, by omega⟩
    (fun K => e_sub ⟨s_t, s_t, s_t, s_t, s_t, s_t, trivial⟩ ⟨s_b, trivial⟩ trivial) ?_
  rintro ⟨k, hk⟩
  dsimp only at hk ⊢
  try refine e_fl ?_
  refine e_plain (w_op rfl rfl rfl (s_bin rfl (kn rfl) (kn rfl) v_lss) .nil) ?_
  try refine e_fl ?_
  refine e_cond rfl (fun h => ?_) (fun h => ?_)
  · have hlt : k < v.fields.length := by have := of_decide_eq_true h; omega
    obtain ⟨x, hx⟩ : ∃ x, v.fields[k]? = some x := ⟨_, List.getElem?_eq_getElem hlt⟩
    have hft : ((v.fields.map (·.2)).take (k + 1)).foldl (gstep (vgreat d)) (left - 1) = gstep (vgreat d) (((v.fields.map (·.2)).take k).foldl (gstep (vgreat d)) (left - 1)) x.2 := fold_take (by rw [List.getElem?_map, hx]; rfl)
    have hb := hgb ((v.fields.map (·.2)).take k) (left - 1) (by omega)
    generalize ((v.fields.map (·.2)).take k).foldl (gstep (vgreat d)) (left - 1) = M at hft hb ⊢
    try refine e_fl ?_
    refine e_list ?_
    refine l_op (s_index rfl (kn rfl) (kn rfl) (by omega) hx fieldDats_len sle_23 esz_23 (fieldDats_vd x)) ?_
    refine l_op (s_loadn_ref rfl (kn rfl) agg_66 sz_66) ?_
    refine e_alloc 8 [.is (.int .i64 0), .is (.int .i64 0), .is (.int .u64 0), .is (.string ⟨#[]⟩), .is (.slice none 0 0), .is (.string ⟨#[]⟩), .is (.slice none 0 0), .is (.slice none 0 0)] rfl rfl rfl rfl zr_66 (fun w D M V => ⟨rfl, fun j x v h1 h2 => cfit_is _ h1 h2 rfl⟩) rfl rfl rfl rfl ?_
    refine e_storew rfl rfl rfl (kn rfl) rfl (kn rfl) rfl rfl sz_66 ?_
    refine e_nil ?_
    try refine e_fl ?_
    refine e_plain (w_mv rfl rfl rfl rfl rfl (w_op rfl rfl rfl (s_bin rfl (kn rfl) (kn rfl) v_geq) .nil)) ?_
    try refine e_fl ?_
    refine e_cond rfl (fun h2 => ?_) (fun h2 => ?_)
    · have hM := of_decide_eq_true h2
      rw [gstep_yes hM] at hft
      try refine e_fl ?_
      refine e_plain (w_op rfl rfl rfl (s_faddr_box rfl (kn rfl) off_66_1) (w_op rfl rfl rfl (s_loadn_box (ds := [_, _, _, _, _, _, _]) 7 rfl (kn rfl) rfl rfl agg_27 sz_27 rfl) (w_mv rfl rfl rfl rfl rfl (w_mv rfl rfl rfl rfl rfl (w_op rfl rfl rfl (s_bin rfl (kn rfl) (kn rfl) (v_dec d hd)) (w_op rfl rfl rfl (s_call rfl (by kernel_rfl) (ih x.2 M (hv.field (List.mem_of_getElem? hx)).2 hM (by omega)) ⟨(kn rfl), ⟨(kn rfl), ⟨(kn rfl), trivial⟩⟩⟩) (w_as rfl rfl rfl rfl rfl .nil))))))) ?_
      try refine e_fl ?_
      try refine e_fl ?_
      refine e_plain (w_op rfl rfl rfl (s_bin rfl (kn rfl) (kn rfl) (v_add64 (by first | omega | (dsimp only; omega) | omega))) (w_mv rfl rfl rfl rfl rfl .nil)) ?_
      try refine e_fl ?_
      refine e_again ⟨k + 1, by omega⟩ (by dsimp only; omega) (fun K => e_sub ⟨⟨_, rfl, Imp.of_eq (by rw [hft])⟩, s_t, s_t, s_t, s_t, s_t, trivial⟩ ⟨s_b, trivial⟩ trivial)
    · rw [gstep_no (of_decide_eq_false h2)] at hft
      try refine e_fl ?_
      refine e_plain (w_op rfl rfl rfl (s_bin rfl (kn rfl) (kn rfl) (v_add64 (by first | omega | (dsimp only; omega) | omega))) (w_mv rfl rfl rfl rfl rfl .nil)) ?_
      try refine e_fl ?_
      refine e_again ⟨k + 1, by omega⟩ (by dsimp only; omega) (fun K => e_sub ⟨⟨_, rfl, Imp.of_eq (by rw [hft])⟩, s_t, s_t, s_t, s_t, s_t, trivial⟩ ⟨s_b, trivial⟩ trivial)
  obtain rfl : k = v.fields.length := by have := of_decide_eq_false h; omega
  rw [List.take_of_length_le (by simp)]
  have hb1 := hgb (v.fields.map (·.2)) (left - 1) (by omega)
  generalize (v.fields.map (·.2)).foldl (gstep (vgreat d)) (left - 1) = L1 at hb1 e2 ⊢
  try refine e_fl ?_
  refine e_plain (w_op rfl rfl rfl (s_faddr_box rfl (kn rfl) off_27_5) (w_op rfl rfl rfl (s_load1_box rfl (kn rfl) rfl rfl one_24) (w_op rfl rfl rfl (s_len rfl (kn rfl) sle_24) (w_mv rfl rfl rfl rfl rfl .nil)))) ?_
  try refine e_fl ?_
  refine e_loop (ι := { k : Nat // k ≤ (v.list).length })
    (fun k => [(1, .is (.int .i64 ((fun k => (v.list.take k).foldl (gstep (vgreat d)) L1) k.1))), (2, .is (.int .i64 ((d + 1 : Nat) : Int))), (3, .box 3 0), (46, .part (.one (.row 7 (v.list).length ((v.list).flatMap Vl.dats)))), (47, .is (.int .i64 ((v.list).length : Int))), (48, .is (.int .i64 (k.1 : Int)))])
    (fun _ => [(3, ⟨27, bcs (vd v)⟩)]) (fun _ => []) (fun k => (v.list).length - k.1) ⟨0, by omega⟩
    (fun K => e_sub ⟨s_t, s_t, s_t, s_t, s_t, s_t, trivial⟩ ⟨s_b, trivial⟩ trivial) ?_
  rintro ⟨k, hk⟩
  dsimp only at hk ⊢
  try refine e_fl ?_
  refine e_plain (w_op rfl rfl rfl (s_bin rfl (kn rfl) (kn rfl) v_lss) .nil) ?_
  try refine e_fl ?_
  refine e_cond rfl (fun h => ?_) (fun h => ?_)
  · have hlt : k < v.list.length := by have := of_decide_eq_true h; omega
    obtain ⟨x, hx⟩ : ∃ x, v.list[k]? = some x := ⟨_, List.getElem?_eq_getElem hlt⟩
    have hft : (v.list.take (k + 1)).foldl (gstep (vgreat d)) L1 = gstep (vgreat d) ((v.list.take k).foldl (gstep (vgreat d)) L1) x := fold_take hx
    have hb := hgb (v.list.take k) L1 (by omega)
    generalize (v.list.take k).foldl (gstep (vgreat d)) L1 = M at hft hb ⊢
    try refine e_fl ?_
    refine e_list ?_
    refine l_op (s_index rfl (kn rfl) (kn rfl) (by omega) hx Vl.dats_len sle_24 esz_24 (dats_vd x)) ?_
    refine l_op (s_loadn_ref rfl (kn rfl) agg_27 sz_27) ?_
    refine e_alloc 10 [.is (.int .i64 0), .is (.int .u64 0), .is (.string ⟨#[]⟩), .is (.slice none 0 0), .is (.string ⟨#[]⟩), .is (.slice none 0 0), .is (.slice none 0 0)] rfl rfl rfl rfl zr_27 (fun w D M V => ⟨rfl, fun j x v h1 h2 => cfit_is _ h1 h2 rfl⟩) rfl rfl rfl rfl ?_
    refine e_storew rfl rfl rfl (kn rfl) rfl (kn rfl) rfl rfl sz_27 ?_
    refine e_nil ?_
    try refine e_fl ?_
    refine e_plain (w_mv rfl rfl rfl rfl rfl (w_op rfl rfl rfl (s_bin rfl (kn rfl) (kn rfl) v_geq) .nil)) ?_
    try refine e_fl ?_
    refine e_cond rfl (fun h2 => ?_) (fun h2 => ?_)
    · have hM := of_decide_eq_true h2
      rw [gstep_yes hM] at hft
      try refine e_fl ?_
      refine e_plain (w_op rfl rfl rfl (s_loadn_box (ds := [_, _, _, _, _, _, _]) 7 rfl (kn rfl) rfl rfl agg_27 sz_27 rfl) (w_mv rfl rfl rfl rfl rfl (w_mv rfl rfl rfl rfl rfl (w_op rfl rfl rfl (s_bin rfl (kn rfl) (kn rfl) (v_dec d hd)) (w_op rfl rfl rfl (s_call rfl (by kernel_rfl) (ih x M (hv.elem (List.mem_of_getElem? hx)) hM (by omega)) ⟨(kn rfl), ⟨(kn rfl), ⟨(kn rfl), trivial⟩⟩⟩) (w_as rfl rfl rfl rfl rfl .nil)))))) ?_
      try refine e_fl ?_
      try refine e_fl ?_
      refine e_plain (w_op rfl rfl rfl (s_bin rfl (kn rfl) (kn rfl) (v_add64 (by first | omega | (dsimp only; omega) | omega))) (w_mv rfl rfl rfl rfl rfl .nil)) ?_
      try refine e_fl ?_
      refine e_again ⟨k + 1, by omega⟩ (by dsimp only; omega) (fun K => e_sub ⟨⟨_, rfl, Imp.of_eq (by rw [hft])⟩, s_t, s_t, s_t, s_t, s_t, trivial⟩ ⟨s_b, trivial⟩ trivial)
    · rw [gstep_no (of_decide_eq_false h2)] at hft
      try refine e_fl ?_
      refine e_plain (w_op rfl rfl rfl (s_bin rfl (kn rfl) (kn rfl) (v_add64 (by first | omega | (dsimp only; omega) | omega))) (w_mv rfl rfl rfl rfl rfl .nil)) ?_
      try refine e_fl ?_
      refine e_again ⟨k + 1, by omega⟩ (by dsimp only; omega) (fun K => e_sub ⟨⟨_, rfl, Imp.of_eq (by rw [hft])⟩, s_t, s_t, s_t, s_t, s_t, trivial⟩ ⟨s_b, trivial⟩ trivial)
  obtain rfl : k = v.list.length := by have := of_decide_eq_false h; omega
  rw [List.take_length]
  have hb2 := hgb v.list L1 (by omega)
  generalize v.list.foldl (gstep (vgreat d)) L1 = L2 at hb2 e2 ⊢
  try refine e_fl ?_
  refine e_plain (w_op rfl rfl rfl (s_faddr_box rfl (kn rfl) off_27_6) (w_op rfl rfl rfl (s_load1_box rfl (kn rfl) rfl rfl one_25) (w_op rfl rfl rfl (s_len rfl (kn rfl) sle_25) (w_mv rfl rfl rfl rfl rfl .nil)))) ?_
  try refine e_fl ?_
  refine e_loop (ι := { k : Nat // k ≤ (v.pairs).length })
    (fun k => [(1, .is (.int .i64 ((fun k => (gpairs (v.pairs.take k)).foldl (gstep (vgreat d)) L2) k.1))), (2, .is (.int .i64 ((d + 1 : Nat) : Int))), (3, .box 3 0), (61, .part (.one (.row 14 (v.pairs).length ((v.pairs).flatMap pairDats)))), (62, .is (.int .i64 ((v.pairs).length : Int))), (63, .is (.int .i64 (k.1 : Int)))])
    (fun _ => [(3, ⟨27, bcs (vd v)⟩)]) (fun _ => []) (fun k => (v.pairs).length - k.1) ⟨0, by omega⟩
    (fun K => e_sub ⟨s_t, s_t, s_t, s_t, s_t, s_t, trivial⟩ ⟨s_b, trivial⟩ trivial) ?_
  rintro ⟨k, hk⟩
  dsimp only at hk ⊢
  try refine e_fl ?_
  refine e_plain (w_op rfl rfl rfl (s_bin rfl (kn rfl) (kn rfl) v_lss) .nil) ?_
  try refine e_fl ?_
  refine e_cond rfl (fun h => ?_) (fun h => ?_)
  · have hlt : k < v.pairs.length := by have := of_decide_eq_true h; omega
    obtain ⟨x, hx⟩ : ∃ x, v.pairs[k]? = some x := ⟨_, List.getElem?_eq_getElem hlt⟩
    have hft := gpairs_take (g := gstep (vgreat d)) (l := L2) hx
    have hb := hgb (gpairs (v.pairs.take k)) L2 (by omega)
    generalize (gpairs (v.pairs.take k)).foldl (gstep (vgreat d)) L2 = M at hft hb ⊢
    try refine e_fl ?_
    refine e_list ?_
    refine l_op (s_index rfl (kn rfl) (kn rfl) (by omega) hx pairDats_len sle_25 esz_25 (pairDats_vd x)) ?_
    refine l_op (s_loadn_ref rfl (kn rfl) agg_82 sz_82) ?_
    refine e_alloc 12 [.is (.int .i64 0), .is (.int .u64 0), .is (.string ⟨#[]⟩), .is (.slice none 0 0), .is (.string ⟨#[]⟩), .is (.slice none 0 0), .is (.slice none 0 0), .is (.int .i64 0), .is (.int .u64 0), .is (.string ⟨#[]⟩), .is (.slice none 0 0), .is (.string ⟨#[]⟩), .is (.slice none 0 0), .is (.slice none 0 0)] rfl rfl rfl rfl zr_82 (fun w D M V => ⟨rfl, fun j x v h1 h2 => cfit_is _ h1 h2 rfl⟩) rfl rfl rfl rfl ?_
    refine e_storew rfl rfl rfl (kn rfl) rfl (kn rfl) rfl rfl sz_82 ?_
    refine e_nil ?_
    try refine e_fl ?_
    refine e_plain (w_mv rfl rfl rfl rfl rfl (w_op rfl rfl rfl (s_bin rfl (kn rfl) (kn rfl) v_geq) .nil)) ?_
    try refine e_fl ?_
    refine e_cond rfl (fun h2 => ?_) (fun h2 => ?_)
    · have hM := of_decide_eq_true h2
      rw [gstep_yes hM] at hft
      have hbd := vgreat_bd d x.1 M hM
      try refine e_fl ?_
      refine e_plain (w_op rfl rfl rfl (s_faddr_box rfl (kn rfl) off_82_0) (w_op rfl rfl rfl (s_loadn_box (ds := [_, _, _, _, _, _, _]) 7 rfl (kn rfl) rfl rfl agg_27 sz_27 rfl) (w_mv rfl rfl rfl rfl rfl (w_mv rfl rfl rfl rfl rfl (w_op rfl rfl rfl (s_bin rfl (kn rfl) (kn rfl) (v_dec d hd)) (w_op rfl rfl rfl (s_call rfl (by kernel_rfl) (ih x.1 M (hv.pair (List.mem_of_getElem? hx)).1 hM (by omega)) ⟨(kn rfl), ⟨(kn rfl), ⟨(kn rfl), trivial⟩⟩⟩) (w_as rfl rfl rfl rfl rfl .nil))))))) ?_
      try refine e_fl ?_
      try refine e_fl ?_
      refine e_plain (w_mv rfl rfl rfl rfl rfl (w_op rfl rfl rfl (s_bin rfl (kn rfl) (kn rfl) v_geq) .nil)) ?_
      try refine e_fl ?_
      refine e_cond rfl (fun h3 => ?_) (fun h3 => ?_)
      · have hM2 := of_decide_eq_true h3
        rw [gstep_yes hM2] at hft
        try refine e_fl ?_
        refine e_plain (w_op rfl rfl rfl (s_faddr_box rfl (kn rfl) off_82_1) (w_op rfl rfl rfl (s_loadn_box (ds := [_, _, _, _, _, _, _]) 7 rfl (kn rfl) rfl rfl agg_27 sz_27 rfl) (w_mv rfl rfl rfl rfl rfl (w_mv rfl rfl rfl rfl rfl (w_op rfl rfl rfl (s_bin rfl (kn rfl) (kn rfl) (v_dec d hd)) (w_op rfl rfl rfl (s_call rfl (by kernel_rfl) (ih x.2 (vgreat d x.1 M) (hv.pair (List.mem_of_getElem? hx)).2 hM2 (by omega)) ⟨(kn rfl), ⟨(kn rfl), ⟨(kn rfl), trivial⟩⟩⟩) (w_as rfl rfl rfl rfl rfl .nil))))))) ?_
        try refine e_fl ?_
        try refine e_fl ?_
        refine e_plain (w_op rfl rfl rfl (s_bin rfl (kn rfl) (kn rfl) (v_add64 (by first | omega | (dsimp only; omega) | omega))) (w_mv rfl rfl rfl rfl rfl .nil)) ?_
        try refine e_fl ?_
        refine e_again ⟨k + 1, by omega⟩ (by dsimp only; omega) (fun K => e_sub ⟨⟨_, rfl, Imp.of_eq (by rw [hft])⟩, s_t, s_t, s_t, s_t, s_t, trivial⟩ ⟨s_b, trivial⟩ trivial)
      · rw [gstep_no (of_decide_eq_false h3)] at hft
        try refine e_fl ?_
        refine e_plain (w_op rfl rfl rfl (s_bin rfl (kn rfl) (kn rfl) (v_add64 (by first | omega | (dsimp only; omega) | omega))) (w_mv rfl rfl rfl rfl rfl .nil)) ?_
        try refine e_fl ?_
        refine e_again ⟨k + 1, by omega⟩ (by dsimp only; omega) (fun K => e_sub ⟨⟨_, rfl, Imp.of_eq (by rw [hft])⟩, s_t, s_t, s_t, s_t, s_t, trivial⟩ ⟨s_b, trivial⟩ trivial)
    · rw [gstep_no (of_decide_eq_false h2), gstep_no (of_decide_eq_false h2)] at hft
      try refine e_fl ?_
      refine e_plain (w_mv rfl rfl rfl rfl rfl (w_op rfl rfl rfl (s_bin rfl (kn rfl) (kn rfl) v_geq) .nil)) ?_
      try refine e_fl ?_
      refine e_cond rfl (fun h3 => ?_) (fun h3 => ?_)
      · exact absurd (of_decide_eq_true h3) (of_decide_eq_false h2)
      try refine e_fl ?_
      refine e_plain (w_op rfl rfl rfl (s_bin rfl (kn rfl) (kn rfl) (v_add64 (by first | omega | (dsimp only; omega) | omega))) (w_mv rfl rfl rfl rfl rfl .nil)) ?_
      try refine e_fl ?_
      refine e_again ⟨k + 1, by omega⟩ (by dsimp only; omega) (fun K => e_sub ⟨⟨_, rfl, Imp.of_eq (by rw [hft])⟩, s_t, s_t, s_t, s_t, s_t, trivial⟩ ⟨s_b, trivial⟩ trivial)
  obtain rfl : k = v.pairs.length := by have := of_decide_eq_false h; omega
  rw [List.take_length]
  try refine e_fl ?_
  refine e_plain (w_mv rfl rfl rfl rfl rfl (w_as rfl rfl rfl rfl rfl .nil)) ?_
  try refine e_fl ?_
  exact e_return rfl rfl (.tmp (kn rfl) (.nil)) (Imp.of_eq (by rw [e2]; rfl)) rfl
theorem great_ef : ∀ d : Nat, d ≤ 1000 → GreatE d
  | 0, _ => great_zero
  | d + 1, h => great_succ d (by omega) (great_ef d (by omega))
def vbig (v : Vl) (most : Int) : Bool := decide (vgreat 30 v most < 0)
set_option maxRecDepth 100000 in
theorem big_ef (v : Vl) (most : Int) (hv : v.Fine) (h0 : 0 ≤ most) (h1 : most ≤ 1000000) : EF Tryz.prog [] 7 [.many (vd v), iP most] (.part (tP (vbig v most))) := by
  refine ef_enter 9 Tryz.func7 rfl rfl rfl fun w D => ?_
  try refine e_fl ?_
  refine e_list ?_
  refine e_box 2 rfl rfl rfl rfl (kn rfl) rfl rfl rfl rfl ?_
  refine l_as ?_
  refine e_nil ?_
  try refine e_fl ?_
  refine e_plain (w_op rfl rfl rfl (s_loadn_box (ds := [_, _, _, _, _, _, _]) 7 rfl (kn rfl) rfl rfl agg_27 sz_27 rfl) (w_mv rfl rfl rfl rfl rfl (w_op rfl rfl rfl (s_call rfl (by kernel_rfl) (great_ef 30 (by omega) v most hv h0 h1) ⟨(kn rfl), ⟨(kn rfl), ⟨(kn rfl), trivial⟩⟩⟩) (w_op rfl rfl rfl (s_bin rfl (kn rfl) (kn rfl) v_lss) (w_as rfl rfl rfl rfl rfl .nil))))) ?_
  try refine e_fl ?_
  exact e_return rfl rfl (.tmp (kn rfl) (.nil)) (Imp.of_eq rfl) rfl
theorem vbig_no {v : Vl} {most : Int} (h0 : 0 ≤ most) (h : vbig v most = false) : (vnodes v : Int) ≤ most ∧ v.Tx := by
  have h1 := of_decide_eq_false h
  have h2 := vgreat_ok 30 v most h0 (by omega)
  exact ⟨by omega, h2.2.tx⟩
end Go.Proofs.YtagoikglbifhmaaGreatDoor
namespace Go.Proofs.YtagoikglbifhmaaGreatDoor
open Go.RowKit
inductive Alike (P : Program) (t : TypeId) : Value → Value → Prop where
  | int (k k' : IntKind) (a b : Int) (h : P.underlying t = some (.int k')) : Alike P t (.int k a) (.int k b)
  | str (a b : List UInt8) (h : P.underlying t = some .string) : Alike P t (.string (str a)) (.string (str b))
theorem Alike.plain {P : Program} {t : TypeId} {a b : Value} (h : Alike P t a b) : P.underlying t = some .string ∨ ∃ k, P.underlying t = some (.int k) := by
  cases h with
  | int k k' a b hu => exact .inr ⟨k', hu⟩
  | str a b hu => exact .inl hu
section
variable {P : Program} {cx : Cx} {T : TL} {B : BL} {R : RL} {o : Oper}
end
end Go.Proofs.YtagoikglbifhmaaGreatDoor
namespace Go.Proofs.YtagoikglbifhmaaGreatDoor
open Go.RowKit
theorem Cap.ren_id (c : Cap) : c.ren (fun b => b) = c := by cases c <;> rfl
theorem caps_ren_id (l : List Cap) : l.map (Cap.ren fun b => b) = l := by
  induction l with
  | nil => rfl
  | cons c l ih => rw [List.map_cons, ih, Cap.ren_id]
theorem IV.ren_id (x : IV) : x.ren (fun b => b) (fun r => r) = x := by
  induction x with
  | opt g x ih => unfold IV.ren; rw [ih]
  | clo fn fs cs => unfold IV.ren; rw [caps_ren_id, caps_ren_id]
  | _ => rfl
theorem ivs_ren_id (l : List IV) : l.map (·.ren (fun b => b) (fun r => r)) = l := by
  induction l with
  | nil => rfl
  | cons c l ih => rw [List.map_cons, ih, IV.ren_id]
theorem renB_id (B : BL) : renB (fun b => b) (fun r => r) B = B := by
  unfold renB
  induction B with
  | nil => rfl
  | cons x B ih => rw [List.map_cons, ih, ivs_ren_id]
theorem renR_id (R : RL) : renR (fun r => r) R = R := by
  unfold renR
  induction R with
  | nil => rfl
  | cons x B ih => rw [List.map_cons, ih]
def LentI (B : BL) (R : RL) (B0 : BL) (R0 : RL) : Prop := (∀ b x, lk b B0 = some x → lk b B = some x) ∧ ∀ r x, lk r R0 = some x → lk r R = some x
theorem LentI.lent {B : BL} {R : RL} {B0 : BL} {R0 : RL} (h : LentI B R B0 R0) : Lent B R (fun b => b) (fun r => r) B0 R0 := ⟨fun b x hx => by rw [ivs_ren_id]; exact h.1 b x hx, h.2, fun _ _ _ _ e => e, fun _ _ _ _ e => e⟩
def LentB (B : BL) : BL → Prop
  | [] => True
  | (b, x) :: l => lk b B = some x ∧ LentB B l
def LentR (R : RL) : RL → Prop
  | [] => True
  | (r, x) :: l => lk r R = some x ∧ LentR R l
theorem LentB.get {B : BL} : ∀ {B0 : BL} (_ : LentB B B0) {b : Nat} {x : Bx}, lk b B0 = some x → lk b B = some x
  | (c, y) :: l, h, b, x, hx => by
    rcases lk_cons hx with ⟨rfl, rfl⟩ | ⟨_, hx⟩
    · exact h.1
    · exact LentB.get h.2 hx
  | [], _, _, _, hx => by cases hx
theorem LentR.get {R : RL} : ∀ {R0 : RL} (_ : LentR R R0) {b : Nat} {x : Rw}, lk b R0 = some x → lk b R = some x
  | (c, y) :: l, h, b, x, hx => by
    rcases lk_cons hx with ⟨rfl, rfl⟩ | ⟨_, hx⟩
    · exact h.1
    · exact LentR.get h.2 hx
  | [], _, _, _, hx => by cases hx
section
variable {P : Program} {cx : Cx} {T : TL} {B : BL} {R : RL} {o : Oper}
def Tidy (B0 : BL) (R0 : RL) (y : IV) (B1 : BL) (R1 : RL) : Prop := names B1 = names B0 ∧ names R1 = names R0 ∧ binB (names B0) (names R0) B1 = true ∧ y.bin (names B0) (names R0) = true
theorem e_calli {ops : Array Oper} {Q : Exit → Act → World → Prop} {l : List Oper} {d : Nat} {f : FuncId} {xs : List Operand} {ts : Array TypeId} {ys : List IV} {B0 : BL} {R0 : RL} {Y : IV → BL → RL → Prop} (hg : o.guard = none) (hd : o.dst = some d) (hn : Nat.blt d cx.n = true) (ho : o.op = .call { callee := .value (.func f), args := xs.toArray, argTypes := ts }) (hc : callable P f = true)
    (hf : EG P cx.gl f ys B0 R0 Y) (hB : LentB B B0) (hR : LentR R R0) (hx : KnX T xs ys) (hY : ∀ y B1 R1, Y y B1 R1 → Tidy B0 R0 y B1 R1)
    (hE : ∀ y B1 R1, Y y B1 R1 → E cx ((d, y) :: killTL (names R0) T) (B1 ++ killBL (names R0) B) (R1 ++ R) (wpList P ops Q l)) : E cx T B R (wpList P ops Q (o :: l)) :=
  e_callx (fun b => b) (fun r => r) hg hd hn ho hc (LentI.lent ⟨fun _ _ h => hB.get h, fun _ _ h => hR.get h⟩) (by rw [ivs_ren_id]; exact hx) hf hY fun y B1 R1 hy => by
    rw [IV.ren_id, renB_id, renR_id, List.map_id']
    exact hE y B1 R1 hy
theorem e_callci {ops : Array Oper} {Q : Exit → Act → World → Prop} {l : List Oper} {d : Nat} {f : FuncId} {x : Operand} {xs : List Operand} {ts : Array TypeId} {fs cs : List Cap} {zs ys : List IV} {B0 : BL} {R0 : RL} {Y : IV → BL → RL → Prop} (hg : o.guard = none) (hd : o.dst = some d) (hn : Nat.blt d cx.n = true) (ho : o.op = .call { callee := .value x, args := xs.toArray, argTypes := ts }) (hc : callable P f = true)
    (hf : EG P cx.gl f ys B0 R0 Y) (hB : LentB B B0) (hR : LentR R R0) (hx : Kn T x (.clo (.func f) fs cs)) (hxs : KnX T xs zs) (hys : ys = fs.map Cap.iv ++ zs ++ cs.map Cap.iv) (hY : ∀ y B1 R1, Y y B1 R1 → Tidy B0 R0 y B1 R1)
    (hE : ∀ y B1 R1, Y y B1 R1 → E cx ((d, y) :: killTL (names R0) T) (B1 ++ killBL (names R0) B) (R1 ++ R) (wpList P ops Q l)) : E cx T B R (wpList P ops Q (o :: l)) :=
  e_callc (fun b => b) (fun r => r) hg hd hn ho hc (LentI.lent ⟨fun _ _ h => hB.get h, fun _ _ h => hR.get h⟩) hx hxs (by rw [ivs_ren_id]; exact hys) hf hY fun y B1 R1 hy => by
    rw [IV.ren_id, renB_id, renR_id, List.map_id']
    exact hE y B1 R1 hy
theorem fits_cells (w : World) (D : Nat → Prop) (cs : List Value) : Fits w D (cs.map .cell) cs := by
  induction cs with
  | nil => exact Fits.nil _ _
  | cons c cs ih => exact .cons (.cell c) ih
end
end Go.Proofs.YtagoikglbifhmaaGreatDoor
