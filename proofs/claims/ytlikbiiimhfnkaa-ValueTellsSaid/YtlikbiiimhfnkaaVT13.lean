/- Part 13 of what the last text of this claim is proved by: walks over the program, and the math behind them. Conditions: as each theorem says. -/
import Derived.Test.YtlikbiiimhfnkaaVT12
import Derived.Test.YtlikbiiimhfnkaaProg
namespace Go.Proofs.Ytlikbiiimhfnkaa
open Go.RowKit
theorem flatf_one (l : List (Int × Vl)) (x : Int × Vl) : (l ++ [x]).flatMap fieldDats = l.flatMap fieldDats ++ (.cell (.int .i64 x.1) :: vd x.2) := by rw [List.flatMap_append, ← fieldDats_vd]; simp
theorem flatp_one (l : List (Vl × Vl)) (x : Vl × Vl) : (l ++ [x]).flatMap pairDats = l.flatMap pairDats ++ (vd x.1 ++ vd x.2) := by rw [List.flatMap_append, ← pairDats_vd]; simp
abbrev ofB (v : Vl) : BL := [(1, ⟨27, bcs (vd v)⟩), (2, ⟨34, zB⟩), (3, ⟨34, [.is (.int .i64 v.kind), .is (.int .u64 (v.num : Int)), .is (.string (str v.text)), .own 100, .is (.string (str v.rest)), .own 101, .own 102]⟩)]
abbrev ofR (v : Vl) (f l p : Nat) : RL := [(100, ⟨60, 8, f, (v.fields.take f).flatMap fieldDats, false⟩), (101, ⟨34, 7, l, (v.list.take l).flatMap Vl.dats, false⟩), (102, ⟨64, 14, p, (v.pairs.take p).flatMap pairDats, false⟩)]
set_option maxRecDepth 100000 in
set_option maxHeartbeats 4000000 in
theorem of_step (v : Vl) (hn : vnodes v ≤ 1000000) (ih : ∀ x ∈ rkids v, EF Try.prog [] 9 [.many (vd x)] (.part (.many (vd x)))) : EF Try.prog [] 9 [.many (vd v)] (.part (.many (vd v))) := by
  have hlen := rkids_len v hn
  have ihf : ∀ f ∈ v.fields, f.2 ∈ rkids v := fun f h => by unfold rkids; exact List.mem_append_left _ (List.mem_append_right _ (List.mem_map.2 ⟨f, h, rfl⟩))
  have ihl : ∀ f ∈ v.list, f ∈ rkids v := fun f h => by unfold rkids; exact List.mem_append_left _ (List.mem_append_left _ h)
  have ihp : ∀ p ∈ v.pairs, p.1 ∈ rkids v ∧ p.2 ∈ rkids v := fun p h => by
    unfold rkids gpairs
    exact ⟨List.mem_append_right _ (List.mem_flatMap.2 ⟨p, h, by simp⟩), List.mem_append_right _ (List.mem_flatMap.2 ⟨p, h, by simp⟩)⟩
  refine ef_enter 74 Try.func9 rfl rfl rfl fun w D => ?_
  try refine e_fl ?_
  refine e_list ?_
  refine e_box 1 rfl rfl rfl rfl (kn rfl) rfl rfl rfl rfl ?_
  refine e_alloc 2 [.is (.int .i64 0), .is (.int .u64 0), .is (.string ⟨#[]⟩), .is (.slice none 0 0), .is (.string ⟨#[]⟩), .is (.slice none 0 0), .is (.slice none 0 0)] rfl rfl rfl rfl zr_34 (fun w D M V => ⟨rfl, fun j x v h1 h2 => cfit_is _ h1 h2 rfl⟩) rfl rfl rfl rfl ?_
  refine e_nil ?_
  try refine e_fl ?_
  refine e_list ?_
  refine l_op (s_faddr_box rfl (kn rfl) off_27_0) ?_
  refine l_op (s_load1_box rfl (kn rfl) rfl rfl one_3) ?_
  refine l_op (s_faddr_box rfl (kn rfl) off_27_1) ?_
  refine l_op (s_load1_box rfl (kn rfl) rfl rfl one_22) ?_
  refine l_op (s_faddr_box rfl (kn rfl) off_27_2) ?_
  refine l_op (s_load1_box rfl (kn rfl) rfl rfl one_9) ?_
  refine l_op (s_faddr_box rfl (kn rfl) off_27_4) ?_
  refine l_op (s_load1_box rfl (kn rfl) rfl rfl one_9) ?_
  refine l_op (s_build (ds := [_, _, _, _, _, _, _]) [(0, _), (1, _), (2, _), (4, _)] rfl ⟨rfl, (kn rfl), ⟨rfl, (kn rfl), ⟨rfl, (kn rfl), ⟨rfl, (kn rfl), trivial⟩⟩⟩⟩ rfl pl_34 zr_34 (fun w D => .cons (.cell _) (.cons (.cell _) (.cons (.cell _) (.cons (.cell _) (.cons (.cell _) (.cons (.cell _) (.cons (.cell _) (.nil _ _)))))))) rfl) ?_
  refine e_alloc 3 [.is (.int .i64 0), .is (.int .u64 0), .is (.string ⟨#[]⟩), .is (.slice none 0 0), .is (.string ⟨#[]⟩), .is (.slice none 0 0), .is (.slice none 0 0)] rfl rfl rfl rfl zr_34 (fun w D M V => ⟨rfl, fun j x v h1 h2 => cfit_is _ h1 h2 rfl⟩) rfl rfl rfl rfl ?_
  refine e_storew rfl rfl rfl (kn rfl) rfl (kn rfl) rfl rfl sz_34 ?_
  refine e_nil ?_
  try refine e_fl ?_
  refine e_row_cell 3 3 100 60 8 rfl rfl rfl rfl rfl ?_
  refine e_row_cell 3 5 101 34 7 rfl rfl rfl rfl rfl ?_
  refine e_row_cell 3 6 102 64 14 rfl rfl rfl rfl rfl ?_
  refine e_plain (w_op rfl rfl rfl (s_faddr_box rfl (kn rfl) off_27_3) (w_op rfl rfl rfl (s_load1_box rfl (kn rfl) rfl rfl one_23) (w_op rfl rfl rfl (s_len rfl (kn rfl) sle_23) (w_mv rfl rfl rfl rfl rfl .nil)))) ?_
  try refine e_fl ?_
  refine e_loop (ι := { k : Nat // k ≤ v.fields.length })
    (fun k => [(1, .box 1 0), (2, .box 2 0), (3, .box 3 0), (20, .part (.one (.row 8 v.fields.length (v.fields.flatMap fieldDats)))), (21, .is (.int .i64 (v.fields.length : Int))), (22, .is (.int .i64 (k.1 : Int)))])
    (fun _ => ofB v) (fun k => ofR v k.1 0 0) (fun k => v.fields.length - k.1) ⟨0, by omega⟩
    (fun K => e_sub ⟨s_t, s_t, s_t, s_t, s_t, s_t, trivial⟩ ⟨s_b, s_b, s_b, trivial⟩ ⟨rfl, rfl, rfl, trivial⟩) ?_
  rintro ⟨k, hk⟩
  dsimp only at hk ⊢
  try refine e_fl ?_
  refine e_plain (w_op rfl rfl rfl (s_bin rfl (kn rfl) (kn rfl) v_lss) .nil) ?_
  try refine e_fl ?_
  refine e_cond rfl (fun h => ?_) (fun h => ?_)
  · have hlt : k < v.fields.length := by have := of_decide_eq_true h; omega
    obtain ⟨x, hx⟩ : ∃ x, v.fields[k]? = some x := ⟨_, List.getElem?_eq_getElem hlt⟩
    have htk : v.fields.take (k + 1) = v.fields.take k ++ [x] := by rw [List.take_add_one, hx]; rfl
    try refine e_fl ?_
    refine e_list ?_
    refine l_op (s_index rfl (kn rfl) (kn rfl) (by omega) hx fieldDats_len sle_23 esz_23 (fieldDats_vd x)) ?_
    refine l_op (s_loadn_ref rfl (kn rfl) agg_58 sz_58) ?_
    refine e_alloc 5 [.is (.int .i64 0), .is (.int .i64 0), .is (.int .u64 0), .is (.string ⟨#[]⟩), .is (.slice none 0 0), .is (.string ⟨#[]⟩), .is (.slice none 0 0), .is (.slice none 0 0)] rfl rfl rfl rfl zr_58 (fun w D M V => ⟨rfl, fun j x v h1 h2 => cfit_is _ h1 h2 rfl⟩) rfl rfl rfl rfl ?_
    refine e_storew rfl rfl rfl (kn rfl) rfl (kn rfl) rfl rfl sz_58 ?_
    refine e_nil ?_
    try refine e_fl ?_
    refine e_draw_tail 9 mixed (by kernel_rfl) (w_op rfl rfl rfl (s_faddr_box rfl (kn rfl) off_34_3) (w_op rfl rfl rfl (s_load1_box rfl (kn rfl) rfl rfl one_30) (w_op rfl rfl rfl (s_faddr_box rfl (kn rfl) off_58_0) (w_op rfl rfl rfl (s_load1_box rfl (kn rfl) rfl rfl one_3) (w_op rfl rfl rfl (s_faddr_box rfl (kn rfl) off_58_1) (w_op rfl rfl rfl (s_loadn_box (ds := [_, _, _, _, _, _, _]) 7 rfl (kn rfl) rfl rfl agg_27 sz_27 rfl) (w_op rfl rfl rfl (s_call rfl (by kernel_rfl) (ih x.2 (ihf x (List.mem_of_getElem? hx))) ⟨(kn rfl), trivial⟩) (w_op rfl rfl rfl (s_build (ds := [_, _, _, _, _, _, _, _]) [(0, _), (1, _)] rfl ⟨rfl, (kn rfl), ⟨rfl, (kn rfl), trivial⟩⟩ rfl pl_60 zr_60 (fun w D => .cons (.cell _) (.cons (.cell _) (.cons (.cell _) (.cons (.cell _) (.cons (.cell _) (.cons (.cell _) (.cons (.cell _) (.cons (.cell _) (.nil _ _))))))))) rfl) (w_op rfl rfl rfl (s_buildSlice (ds := [_, _, _, _, _, _, _, _]) [(0, _)] rfl ⟨rfl, (kn rfl), trivial⟩ rfl sl_30 sz_60 zr_60 (fun w D => .cons (.cell _) (.cons (.cell _) (.cons (.cell _) (.cons (.cell _) (.cons (.cell _) (.cons (.cell _) (.cons (.cell _) (.cons (.cell _) (.nil _ _))))))))) rfl rfl rfl rfl rfl) .nil))))))))) ?_
    refine e_append rfl rfl rfl rfl (kn rfl) rfl (kn rfl) sl_30 ap_30 rfl rfl (by first | omega | (dsimp only; omega) | omega) (by first | omega | (dsimp only; omega) | omega) ?_
    refine l_op (s_faddr_box rfl (kn rfl) off_34_3) ?_
    refine e_store_own rfl rfl rfl (kn rfl) rfl (kn rfl) rfl rfl sz_30 rfl ?_
    refine e_nil ?_
    try refine e_fl ?_
    refine e_plain (w_op rfl rfl rfl (s_bin rfl (kn rfl) (kn rfl) (v_add64 (by first | omega | (dsimp only; omega) | omega))) (w_mv rfl rfl rfl rfl rfl .nil)) ?_
    try refine e_fl ?_
    refine e_again ⟨k + 1, by omega⟩ (by dsimp only; omega) (fun K => e_sub ⟨s_t, s_t, s_t, s_t, s_t, s_t, trivial⟩ ⟨s_b, s_b, s_b, trivial⟩ ⟨rowEq rfl rfl (by rw [htk, flatf_one]; rfl), rfl, rfl, trivial⟩)
  obtain rfl : k = v.fields.length := by have := of_decide_eq_false h; omega
  try refine e_fl ?_
  refine e_plain (w_op rfl rfl rfl (s_faddr_box rfl (kn rfl) off_27_5) (w_op rfl rfl rfl (s_load1_box rfl (kn rfl) rfl rfl one_24) (w_op rfl rfl rfl (s_len rfl (kn rfl) sle_24) (w_mv rfl rfl rfl rfl rfl .nil)))) ?_
  try refine e_fl ?_
  refine e_loop (ι := { k : Nat // k ≤ v.list.length })
    (fun k => [(1, .box 1 0), (2, .box 2 0), (3, .box 3 0), (39, .part (lP v.list)), (40, .is (.int .i64 (v.list.length : Int))), (41, .is (.int .i64 (k.1 : Int)))])
    (fun _ => ofB v) (fun k => ofR v v.fields.length k.1 0) (fun k => v.list.length - k.1) ⟨0, by omega⟩
    (fun K => e_sub ⟨s_t, s_t, s_t, s_t, s_t, s_t, trivial⟩ ⟨s_b, s_b, s_b, trivial⟩ ⟨rfl, rfl, rfl, trivial⟩) ?_
  rintro ⟨k, hk⟩
  dsimp only at hk ⊢
  try refine e_fl ?_
  refine e_plain (w_op rfl rfl rfl (s_bin rfl (kn rfl) (kn rfl) v_lss) .nil) ?_
  try refine e_fl ?_
  refine e_cond rfl (fun h => ?_) (fun h => ?_)
  · have hlt : k < v.list.length := by have := of_decide_eq_true h; omega
    obtain ⟨x, hx⟩ : ∃ x, v.list[k]? = some x := ⟨_, List.getElem?_eq_getElem hlt⟩
    have htk : v.list.take (k + 1) = v.list.take k ++ [x] := by rw [List.take_add_one, hx]; rfl
    try refine e_fl ?_
    refine e_list ?_
    refine l_op (s_index rfl (kn rfl) (kn rfl) (by omega) hx Vl.dats_len sle_24 esz_24 (dats_vd x)) ?_
    refine l_op (s_loadn_ref rfl (kn rfl) agg_27 sz_27) ?_
    refine e_alloc 7 [.is (.int .i64 0), .is (.int .u64 0), .is (.string ⟨#[]⟩), .is (.slice none 0 0), .is (.string ⟨#[]⟩), .is (.slice none 0 0), .is (.slice none 0 0)] rfl rfl rfl rfl zr_27 (fun w D M V => ⟨rfl, fun j x v h1 h2 => cfit_is _ h1 h2 rfl⟩) rfl rfl rfl rfl ?_
    refine e_storew rfl rfl rfl (kn rfl) rfl (kn rfl) rfl rfl sz_27 ?_
    refine e_nil ?_
    try refine e_fl ?_
    refine e_draw_tail 5 mixed (by kernel_rfl) (w_op rfl rfl rfl (s_faddr_box rfl (kn rfl) off_34_5) (w_op rfl rfl rfl (s_load1_box rfl (kn rfl) rfl rfl one_31) (w_op rfl rfl rfl (s_loadn_box (ds := [_, _, _, _, _, _, _]) 7 rfl (kn rfl) rfl rfl agg_27 sz_27 rfl) (w_op rfl rfl rfl (s_call rfl (by kernel_rfl) (ih x (ihl x (List.mem_of_getElem? hx))) ⟨(kn rfl), trivial⟩) (w_op rfl rfl rfl (s_buildSlice (ds := [_, _, _, _, _, _, _]) [(0, _)] rfl ⟨rfl, (kn rfl), trivial⟩ rfl sl_31 sz_34 zr_34 (fun w D => .cons (.cell _) (.cons (.cell _) (.cons (.cell _) (.cons (.cell _) (.cons (.cell _) (.cons (.cell _) (.cons (.cell _) (.nil _ _)))))))) rfl rfl rfl rfl rfl) .nil))))) ?_
    refine e_append rfl rfl rfl rfl (kn rfl) rfl (kn rfl) sl_31 ap_31 rfl rfl (by first | omega | (dsimp only; omega) | omega) (by first | omega | (dsimp only; omega) | omega) ?_
    refine l_op (s_faddr_box rfl (kn rfl) off_34_5) ?_
    refine e_store_own rfl rfl rfl (kn rfl) rfl (kn rfl) rfl rfl sz_31 rfl ?_
    refine e_nil ?_
    try refine e_fl ?_
    refine e_plain (w_op rfl rfl rfl (s_bin rfl (kn rfl) (kn rfl) (v_add64 (by first | omega | (dsimp only; omega) | omega))) (w_mv rfl rfl rfl rfl rfl .nil)) ?_
    try refine e_fl ?_
    refine e_again ⟨k + 1, by omega⟩ (by dsimp only; omega) (fun K => e_sub ⟨s_t, s_t, s_t, s_t, s_t, s_t, trivial⟩ ⟨s_b, s_b, s_b, trivial⟩ ⟨rfl, rowEq rfl rfl (by rw [htk, flat_one]; rfl), rfl, trivial⟩)
  obtain rfl : k = v.list.length := by have := of_decide_eq_false h; omega
  try refine e_fl ?_
  refine e_plain (w_op rfl rfl rfl (s_faddr_box rfl (kn rfl) off_27_6) (w_op rfl rfl rfl (s_load1_box rfl (kn rfl) rfl rfl one_25) (w_op rfl rfl rfl (s_len rfl (kn rfl) sle_25) (w_mv rfl rfl rfl rfl rfl .nil)))) ?_
  try refine e_fl ?_
  refine e_loop (ι := { k : Nat // k ≤ v.pairs.length })
    (fun k => [(1, .box 1 0), (2, .box 2 0), (3, .box 3 0), (54, .part (.one (.row 14 v.pairs.length (v.pairs.flatMap pairDats)))), (55, .is (.int .i64 (v.pairs.length : Int))), (56, .is (.int .i64 (k.1 : Int)))])
    (fun _ => ofB v) (fun k => ofR v v.fields.length v.list.length k.1) (fun k => v.pairs.length - k.1) ⟨0, by omega⟩
    (fun K => e_sub ⟨s_t, s_t, s_t, s_t, s_t, s_t, trivial⟩ ⟨s_b, s_b, s_b, trivial⟩ ⟨rfl, rfl, rfl, trivial⟩) ?_
  rintro ⟨k, hk⟩
  dsimp only at hk ⊢
  try refine e_fl ?_
  refine e_plain (w_op rfl rfl rfl (s_bin rfl (kn rfl) (kn rfl) v_lss) .nil) ?_
  try refine e_fl ?_
  refine e_cond rfl (fun h => ?_) (fun h => ?_)
  · have hlt : k < v.pairs.length := by have := of_decide_eq_true h; omega
    obtain ⟨x, hx⟩ : ∃ x, v.pairs[k]? = some x := ⟨_, List.getElem?_eq_getElem hlt⟩
    have htk : v.pairs.take (k + 1) = v.pairs.take k ++ [x] := by rw [List.take_add_one, hx]; rfl
    try refine e_fl ?_
    refine e_list ?_
    refine l_op (s_index rfl (kn rfl) (kn rfl) (by omega) hx pairDats_len sle_25 esz_25 (pairDats_vd x)) ?_
    refine l_op (s_loadn_ref rfl (kn rfl) agg_62 sz_62) ?_
    refine e_alloc 9 [.is (.int .i64 0), .is (.int .u64 0), .is (.string ⟨#[]⟩), .is (.slice none 0 0), .is (.string ⟨#[]⟩), .is (.slice none 0 0), .is (.slice none 0 0), .is (.int .i64 0), .is (.int .u64 0), .is (.string ⟨#[]⟩), .is (.slice none 0 0), .is (.string ⟨#[]⟩), .is (.slice none 0 0), .is (.slice none 0 0)] rfl rfl rfl rfl zr_62 (fun w D M V => ⟨rfl, fun j x v h1 h2 => cfit_is _ h1 h2 rfl⟩) rfl rfl rfl rfl ?_
    refine e_storew rfl rfl rfl (kn rfl) rfl (kn rfl) rfl rfl sz_62 ?_
    refine e_nil ?_
    try refine e_fl ?_
    refine e_draw_tail 10 mixed (by kernel_rfl) (w_op rfl rfl rfl (s_faddr_box rfl (kn rfl) off_34_6) (w_op rfl rfl rfl (s_load1_box rfl (kn rfl) rfl rfl one_32) (w_op rfl rfl rfl (s_faddr_box rfl (kn rfl) off_62_0) (w_op rfl rfl rfl (s_loadn_box (ds := [_, _, _, _, _, _, _]) 7 rfl (kn rfl) rfl rfl agg_27 sz_27 rfl) (w_op rfl rfl rfl (s_call rfl (by kernel_rfl) (ih x.1 (ihp x (List.mem_of_getElem? hx)).1) ⟨(kn rfl), trivial⟩) (w_op rfl rfl rfl (s_faddr_box rfl (kn rfl) off_62_1) (w_op rfl rfl rfl (s_loadn_box (ds := [_, _, _, _, _, _, _]) 7 rfl (kn rfl) rfl rfl agg_27 sz_27 rfl) (w_op rfl rfl rfl (s_call rfl (by kernel_rfl) (ih x.2 (ihp x (List.mem_of_getElem? hx)).2) ⟨(kn rfl), trivial⟩) (w_op rfl rfl rfl (s_build (ds := [_, _, _, _, _, _, _, _, _, _, _, _, _, _]) [(0, _), (1, _)] rfl ⟨rfl, (kn rfl), ⟨rfl, (kn rfl), trivial⟩⟩ rfl pl_64 zr_64 (fun w D => .cons (.cell _) (.cons (.cell _) (.cons (.cell _) (.cons (.cell _) (.cons (.cell _) (.cons (.cell _) (.cons (.cell _) (.cons (.cell _) (.cons (.cell _) (.cons (.cell _) (.cons (.cell _) (.cons (.cell _) (.cons (.cell _) (.cons (.cell _) (.nil _ _))))))))))))))) rfl) (w_op rfl rfl rfl (s_buildSlice (ds := [_, _, _, _, _, _, _, _, _, _, _, _, _, _]) [(0, _)] rfl ⟨rfl, (kn rfl), trivial⟩ rfl sl_32 sz_64 zr_64 (fun w D => .cons (.cell _) (.cons (.cell _) (.cons (.cell _) (.cons (.cell _) (.cons (.cell _) (.cons (.cell _) (.cons (.cell _) (.cons (.cell _) (.cons (.cell _) (.cons (.cell _) (.cons (.cell _) (.cons (.cell _) (.cons (.cell _) (.cons (.cell _) (.nil _ _))))))))))))))) rfl rfl rfl rfl rfl) .nil)))))))))) ?_
    refine e_append rfl rfl rfl rfl (kn rfl) rfl (kn rfl) sl_32 ap_32 rfl rfl (by first | omega | (dsimp only; omega) | omega) (by first | omega | (dsimp only; omega) | omega) ?_
    refine l_op (s_faddr_box rfl (kn rfl) off_34_6) ?_
    refine e_store_own rfl rfl rfl (kn rfl) rfl (kn rfl) rfl rfl sz_32 rfl ?_
    refine e_nil ?_
    try refine e_fl ?_
    refine e_plain (w_op rfl rfl rfl (s_bin rfl (kn rfl) (kn rfl) (v_add64 (by first | omega | (dsimp only; omega) | omega))) (w_mv rfl rfl rfl rfl rfl .nil)) ?_
    try refine e_fl ?_
    refine e_again ⟨k + 1, by omega⟩ (by dsimp only; omega) (fun K => e_sub ⟨s_t, s_t, s_t, s_t, s_t, s_t, trivial⟩ ⟨s_b, s_b, s_b, trivial⟩ ⟨rfl, rfl, rowEq rfl rfl (by rw [htk, flatp_one]; rfl), trivial⟩)
  obtain rfl : k = v.pairs.length := by have := of_decide_eq_false h; omega
  try refine e_fl ?_
  refine e_freeze_cell 3 3 100 rfl rfl rfl rfl rfl ?_
  refine e_freeze_cell 3 5 101 rfl rfl rfl rfl rfl ?_
  refine e_freeze_cell 3 6 102 rfl rfl rfl rfl rfl ?_
  dsimp only
  rw [List.take_length, List.take_length, List.take_length]
  refine e_list ?_
  refine l_op (s_loadn_box (ds := [_, _, _, _, _, _, _]) 7 rfl (kn rfl) rfl rfl agg_34 sz_34 rfl) ?_
  refine e_storew rfl rfl rfl (kn rfl) rfl (kn rfl) rfl rfl sz_34 ?_
  refine e_nil ?_
  try refine e_fl ?_
  exact e_return rfl rfl (.cell rfl rfl rfl agg_34 sz_34 rfl (.nil)) (Imp.of_eq rfl) rfl
theorem of_ef (v : Vl) : vnodes v ≤ 1000000 → EF Try.prog [] 9 [.many (vd v)] (.part (.many (vd v))) :=
  rkids_ind (P := fun v => vnodes v ≤ 1000000 → EF Try.prog [] 9 [.many (vd v)] (.part (.many (vd v)))) (fun v ih hn => of_step v hn fun x hx => ih x hx (by have := (rkids_mem hx).2.2; omega)) v
end Go.Proofs.Ytlikbiiimhfnkaa
namespace Go.Proofs.Ytlikbiiimhfnkaa
open Go.RowKit
theorem v_dec {P : Program} {t : TypeId} (d : Nat) (h : d ≤ 1000) : BinV P .sub t (.int .i64 ((d + 1 : Nat) : Int)) (.int .i64 1) (.int .i64 (d : Int)) := by
  have := v_sub64 (P := P) (t := t) (m := ((d + 1 : Nat) : Int)) (n := 1) (by omega)
  rwa [show ((d + 1 : Nat) : Int) - 1 = (d : Int) by omega] at this
theorem gstep_yes {g : Vl → Int → Int} {l : Int} {x : Vl} (h : 0 ≤ l) : gstep g l x = g x l := if_pos h
theorem gstep_no {g : Vl → Int → Int} {l : Int} {x : Vl} (h : ¬ 0 ≤ l) : gstep g l x = l := if_neg h
def GreatE (d : Nat) : Prop := ∀ (v : Vl) (left : Int), v.Fine → 0 ≤ left → left ≤ 1000000 → EF Try.prog [] 30 [.many (vd v), iP left, iP (d : Int)] (.part (iP (vgreat d v left)))
set_option maxRecDepth 100000 in
theorem great_zero : GreatE 0 := by
  intro v left hv h0 h1
  refine ef_enter 85 Try.func30 rfl rfl rfl fun w D => ?_
  try refine e_fl ?_
  refine e_list ?_
  refine e_box 3 rfl rfl rfl rfl (kn rfl) rfl rfl rfl rfl ?_
  refine l_as ?_
  refine e_nil ?_
  try refine e_fl ?_
  refine e_plain (w_mv rfl rfl rfl rfl rfl (w_op rfl rfl rfl (s_bin rfl (kn rfl) (kn rfl) v_eql) (w_mv rfl rfl rfl rfl rfl (Walk.gd _ rfl rfl rfl (fun h => s_faddr_box rfl (kn rfl) off_27_2) (Walk.gd _ rfl rfl rfl (fun h => s_load1_box rfl (kn_opt rfl h) rfl rfl one_9) (Walk.gd _ rfl rfl rfl (fun h => s_slen rfl (kn_opt rfl h) str_9) (Walk.gd _ rfl rfl rfl (fun h => s_bin rfl (kn_opt rfl h) (kn rfl) v_gtr) (w_op rfl rfl rfl (s_or rfl (kn rfl) (fun hb => kn_opt rfl hb)) (w_mv rfl rfl rfl rfl rfl (Walk.gd _ rfl rfl rfl (fun h => s_faddr_box rfl (kn rfl) off_27_4) (Walk.gd _ rfl rfl rfl (fun h => s_load1_box rfl (kn_opt rfl h) rfl rfl one_9) (Walk.gd _ rfl rfl rfl (fun h => s_slen rfl (kn_opt rfl h) str_9) (Walk.gd _ rfl rfl rfl (fun h => s_bin rfl (kn_opt rfl h) (kn rfl) v_gtr) (w_op rfl rfl rfl (s_or rfl (kn rfl) (fun hb => kn_opt rfl hb)) .nil)))))))))))))) ?_
  try refine e_fl ?_
  refine e_cond rfl (fun h => ?_) (fun h => ?_)
  · try refine e_fl ?_
    refine e_plain (w_as rfl rfl rfl rfl rfl .nil) ?_
    try refine e_fl ?_
    exact e_return rfl rfl (.tmp (kn rfl) (.nil)) (Imp.of_eq rfl) rfl
  · simp at h
set_option maxRecDepth 100000 in
set_option maxHeartbeats 4000000 in
theorem great_succ (d : Nat) (hd : d ≤ 1000) (ih : GreatE d) : GreatE (d + 1) := by
  intro v left hv h0 h1
  have hmax : maxLen ≤ 9223372036854775807 := by decide
  obtain ⟨a1, a2, a3, a4, a5, a6, a7, a8⟩ := hv.bounds
  have hgb : ∀ (xs : List Vl) (l : Int), -1 ≤ l → -1 ≤ xs.foldl (gstep (vgreat d)) l ∧ xs.foldl (gstep (vgreat d)) l ≤ l := fun xs l h => gfold_bd (vgreat d) (fun x l hl => vgreat_bd d x l hl) xs l h
  have e : ¬ (400 < v.text.length ∨ 400 < v.rest.length) → vgreat (d + 1) v left = (gpairs v.pairs).foldl (gstep (vgreat d)) (v.list.foldl (gstep (vgreat d)) ((v.fields.map (·.2)).foldl (gstep (vgreat d)) (left - 1))) := fun h => by
    rw [vgreat, if_neg h, gkids, List.foldl_append, List.foldl_append]
    rfl
  refine ef_enter 85 Try.func30 rfl rfl rfl fun w D => ?_
  try refine e_fl ?_
  refine e_list ?_
  refine e_box 3 rfl rfl rfl rfl (kn rfl) rfl rfl rfl rfl ?_
  refine l_as ?_
  refine e_nil ?_
  try refine e_fl ?_
  refine e_plain (w_mv rfl rfl rfl rfl rfl (w_op rfl rfl rfl (s_bin rfl (kn rfl) (kn rfl) v_eql) (w_mv rfl rfl rfl rfl rfl (Walk.gd _ rfl rfl rfl (fun h => s_faddr_box rfl (kn rfl) off_27_2) (Walk.gd _ rfl rfl rfl (fun h => s_load1_box rfl (kn_opt rfl h) rfl rfl one_9) (Walk.gd _ rfl rfl rfl (fun h => s_slen rfl (kn_opt rfl h) str_9) (Walk.gd _ rfl rfl rfl (fun h => s_bin rfl (kn_opt rfl h) (kn rfl) v_gtr) (w_op rfl rfl rfl (s_or rfl (kn rfl) (fun hb => kn_opt rfl hb)) (w_mv rfl rfl rfl rfl rfl (Walk.gd _ rfl rfl rfl (fun h => s_faddr_box rfl (kn rfl) off_27_4) (Walk.gd _ rfl rfl rfl (fun h => s_load1_box rfl (kn_opt rfl h) rfl rfl one_9) (Walk.gd _ rfl rfl rfl (fun h => s_slen rfl (kn_opt rfl h) str_9) (Walk.gd _ rfl rfl rfl (fun h => s_bin rfl (kn_opt rfl h) (kn rfl) v_gtr) (w_op rfl rfl rfl (s_or rfl (kn rfl) (fun hb => kn_opt rfl hb)) .nil)))))))))))))) ?_
  try refine e_fl ?_
  refine e_cond rfl (fun h => ?_) (fun h => ?_)
  · have e2 : vgreat (d + 1) v left = -1 := by
      simp only [Bool.or_eq_true, decide_eq_true_eq] at h
      rw [vgreat]
      exact if_pos (by omega)
    try refine e_fl ?_
    refine e_plain (w_as rfl rfl rfl rfl rfl .nil) ?_
    try refine e_fl ?_
    exact e_return rfl rfl (.tmp (kn rfl) (.nil)) (Imp.of_eq (by rw [e2]; rfl)) rfl
  have e2 := e (by
    simp only [Bool.or_eq_false_iff, decide_eq_false_iff_not] at h
    omega)
  clear e h
  try refine e_fl ?_
  refine e_plain (w_mv rfl rfl rfl rfl rfl (w_op rfl rfl rfl (s_bin rfl (kn rfl) (kn rfl) (v_sub64 (by first | omega | (dsimp only; omega) | omega))) (w_as rfl rfl rfl rfl rfl .nil))) ?_
  try refine e_fl ?_
  refine e_plain (w_op rfl rfl rfl (s_faddr_box rfl (kn rfl) off_27_3) (w_op rfl rfl rfl (s_load1_box rfl (kn rfl) rfl rfl one_23) (w_op rfl rfl rfl (s_len rfl (kn rfl) sle_23) (w_mv rfl rfl rfl rfl rfl .nil)))) ?_
  try refine e_fl ?_
  refine e_loop (ι := { k : Nat // k ≤ (v.fields).length })
    (fun k => [(1, .is (.int .i64 ((fun k => ((v.fields.map (·.2)).take k).foldl (gstep (vgreat d)) (left - 1)) k.1))), (2, .is (.int .i64 ((d + 1 : Nat) : Int))), (3, .box 3 0), (30, .part (.one (.row 8 (v.fields).length ((v.fields).flatMap fieldDats)))), (31, .is (.int .i64 ((v.fields).length : Int))), (32, .is (.int .i64 (k.1 : Int)))])
    (fun _ => [(3, ⟨27, bcs (vd v)⟩)]) (fun _ => []) (fun k => (v.fields).length - k.1) ⟨0, by omega⟩
    (fun K => e_sub ⟨s_t, s_t, s_t, s_t, s_t, s_t, trivial⟩ ⟨s_b, trivial⟩ trivial) ?_
  rintro ⟨k, hk⟩
  dsimp only at hk ⊢
  try refine e_fl ?_
  refine e_plain (w_op rfl rfl rfl (s_bin rfl (kn rfl) (kn rfl) v_lss) .nil) ?_
  try refine e_fl ?_
  refine e_cond rfl (fun h => ?_) (fun h => ?_)
  · have hlt : k < v.fields.length := by have := of_decide_eq_true h; omega
    obtain ⟨x, hx⟩ : ∃ x, v.fields[k]? = some x := ⟨_, List.getElem?_eq_getElem hlt⟩
    have hft : ((v.fields.map (·.2)).take (k + 1)).foldl (gstep (vgreat d)) (left - 1) = gstep (vgreat d) (((v.fields.map (·.2)).take k).foldl (gstep (vgreat d)) (left - 1)) x.2 := fold_take (by rw [List.getElem?_map, hx]; rfl)
    have hb := hgb ((v.fields.map (·.2)).take k) (left - 1) (by omega)
    generalize ((v.fields.map (·.2)).take k).foldl (gstep (vgreat d)) (left - 1) = M at hft hb ⊢
    try refine e_fl ?_
    refine e_list ?_
    refine l_op (s_index rfl (kn rfl) (kn rfl) (by omega) hx fieldDats_len sle_23 esz_23 (fieldDats_vd x)) ?_
    refine l_op (s_loadn_ref rfl (kn rfl) agg_58 sz_58) ?_
    refine e_alloc 8 [.is (.int .i64 0), .is (.int .i64 0), .is (.int .u64 0), .is (.string ⟨#[]⟩), .is (.slice none 0 0), .is (.string ⟨#[]⟩), .is (.slice none 0 0), .is (.slice none 0 0)] rfl rfl rfl rfl zr_58 (fun w D M V => ⟨rfl, fun j x v h1 h2 => cfit_is _ h1 h2 rfl⟩) rfl rfl rfl rfl ?_
    refine e_storew rfl rfl rfl (kn rfl) rfl (kn rfl) rfl rfl sz_58 ?_
    refine e_nil ?_
    try refine e_fl ?_
    refine e_plain (w_mv rfl rfl rfl rfl rfl (w_op rfl rfl rfl (s_bin rfl (kn rfl) (kn rfl) v_geq) .nil)) ?_
    try refine e_fl ?_
    refine e_cond rfl (fun h2 => ?_) (fun h2 => ?_)
    · have hM := of_decide_eq_true h2
      rw [gstep_yes hM] at hft
      try refine e_fl ?_
      refine e_plain (w_op rfl rfl rfl (s_faddr_box rfl (kn rfl) off_58_1) (w_op rfl rfl rfl (s_loadn_box (ds := [_, _, _, _, _, _, _]) 7 rfl (kn rfl) rfl rfl agg_27 sz_27 rfl) (w_mv rfl rfl rfl rfl rfl (w_mv rfl rfl rfl rfl rfl (w_op rfl rfl rfl (s_bin rfl (kn rfl) (kn rfl) (v_dec d hd)) (w_op rfl rfl rfl (s_call rfl (by kernel_rfl) (ih x.2 M (hv.field (List.mem_of_getElem? hx)).2 hM (by omega)) ⟨(kn rfl), ⟨(kn rfl), ⟨(kn rfl), trivial⟩⟩⟩) (w_as rfl rfl rfl rfl rfl .nil))))))) ?_
      try refine e_fl ?_
      try refine e_fl ?_
      refine e_plain (w_op rfl rfl rfl (s_bin rfl (kn rfl) (kn rfl) (v_add64 (by first | omega | (dsimp only; omega) | omega))) (w_mv rfl rfl rfl rfl rfl .nil)) ?_
      try refine e_fl ?_
      refine e_again ⟨k + 1, by omega⟩ (by dsimp only; omega) (fun K => e_sub ⟨⟨_, rfl, Imp.of_eq (by rw [hft])⟩, s_t, s_t, s_t, s_t, s_t, trivial⟩ ⟨s_b, trivial⟩ trivial)
    · rw [gstep_no (of_decide_eq_false h2)] at hft
      try refine e_fl ?_
      refine e_plain (w_op rfl rfl rfl (s_bin rfl (kn rfl) (kn rfl) (v_add64 (by first | omega | (dsimp only; omega) | omega))) (w_mv rfl rfl rfl rfl rfl .nil)) ?_
      try refine e_fl ?_
      refine e_again ⟨k + 1, by omega⟩ (by dsimp only; omega) (fun K => e_sub ⟨⟨_, rfl, Imp.of_eq (by rw [hft])⟩, s_t, s_t, s_t, s_t, s_t, trivial⟩ ⟨s_b, trivial⟩ trivial)
  obtain rfl : k = v.fields.length := by have := of_decide_eq_false h; omega
  rw [List.take_of_length_le (by simp)]
  have hb1 := hgb (v.fields.map (·.2)) (left - 1) (by omega)
  generalize (v.fields.map (·.2)).foldl (gstep (vgreat d)) (left - 1) = L1 at hb1 e2 ⊢
  try refine e_fl ?_
  refine e_plain (w_op rfl rfl rfl (s_faddr_box rfl (kn rfl) off_27_5) (w_op rfl rfl rfl (s_load1_box rfl (kn rfl) rfl rfl one_24) (w_op rfl rfl rfl (s_len rfl (kn rfl) sle_24) (w_mv rfl rfl rfl rfl rfl .nil)))) ?_
  try refine e_fl ?_
  refine e_loop (ι := { k : Nat // k ≤ (v.list).length })
    (fun k => [(1, .is (.int .i64 ((fun k => (v.list.take k).foldl (gstep (vgreat d)) L1) k.1))), (2, .is (.int .i64 ((d + 1 : Nat) : Int))), (3, .box 3 0), (46, .part (.one (.row 7 (v.list).length ((v.list).flatMap Vl.dats)))), (47, .is (.int .i64 ((v.list).length : Int))), (48, .is (.int .i64 (k.1 : Int)))])
    (fun _ => [(3, ⟨27, bcs (vd v)⟩)]) (fun _ => []) (fun k => (v.list).length - k.1) ⟨0, by omega⟩
    (fun K => e_sub ⟨s_t, s_t, s_t, s_t, s_t, s_t, trivial⟩ ⟨s_b, trivial⟩ trivial) ?_
  rintro ⟨k, hk⟩
  dsimp only at hk ⊢
  try refine e_fl ?_
  refine e_plain (w_op rfl rfl rfl (s_bin rfl (kn rfl) (kn rfl) v_lss) .nil) ?_
  try refine e_fl ?_
  refine e_cond rfl (fun h => ?_) (fun h => ?_)
  · have hlt : k < v.list.length := by have := of_decide_eq_true h; omega
    obtain ⟨x, hx⟩ : ∃ x, v.list[k]? = some x := ⟨_, List.getElem?_eq_getElem hlt⟩
    have hft : (v.list.take (k + 1)).foldl (gstep (vgreat d)) L1 = gstep (vgreat d) ((v.list.take k).foldl (gstep (vgreat d)) L1) x := fold_take hx
    have hb := hgb (v.list.take k) L1 (by omega)
    generalize (v.list.take k).foldl (gstep (vgreat d)) L1 = M at hft hb ⊢
    try refine e_fl ?_
    refine e_list ?_
    refine l_op (s_index rfl (kn rfl) (kn rfl) (by omega) hx Vl.dats_len sle_24 esz_24 (dats_vd x)) ?_
    refine l_op (s_loadn_ref rfl (kn rfl) agg_27 sz_27) ?_
    refine e_alloc 10 [.is (.int .i64 0), .is (.int .u64 0), .is (.string ⟨#[]⟩), .is (.slice none 0 0), .is (.string ⟨#[]⟩), .is (.slice none 0 0), .is (.slice none 0 0)] rfl rfl rfl rfl zr_27 (fun w D M V => ⟨rfl, fun j x v h1 h2 => cfit_is _ h1 h2 rfl⟩) rfl rfl rfl rfl ?_
    refine e_storew rfl rfl rfl (kn rfl) rfl (kn rfl) rfl rfl sz_27 ?_
    refine e_nil ?_
    try refine e_fl ?_
    refine e_plain (w_mv rfl rfl rfl rfl rfl (w_op rfl rfl rfl (s_bin rfl (kn rfl) (kn rfl) v_geq) .nil)) ?_
    try refine e_fl ?_
    refine e_cond rfl (fun h2 => ?_) (fun h2 => ?_)
    · have hM := of_decide_eq_true h2
      rw [gstep_yes hM] at hft
      try refine e_fl ?_
      refine e_plain (w_op rfl rfl rfl (s_loadn_box (ds := [_, _, _, _, _, _, _]) 7 rfl (kn rfl) rfl rfl agg_27 sz_27 rfl) (w_mv rfl rfl rfl rfl rfl (w_mv rfl rfl rfl rfl rfl (w_op rfl rfl rfl (s_bin rfl (kn rfl) (kn rfl) (v_dec d hd)) (w_op rfl rfl rfl (s_call rfl (by kernel_rfl) (ih x M (hv.elem (List.mem_of_getElem? hx)) hM (by omega)) ⟨(kn rfl), ⟨(kn rfl), ⟨(kn rfl), trivial⟩⟩⟩) (w_as rfl rfl rfl rfl rfl .nil)))))) ?_
      try refine e_fl ?_
      try refine e_fl ?_
      refine e_plain (w_op rfl rfl rfl (s_bin rfl (kn rfl) (kn rfl) (v_add64 (by first | omega | (dsimp only; omega) | omega))) (w_mv rfl rfl rfl rfl rfl .nil)) ?_
      try refine e_fl ?_
      refine e_again ⟨k + 1, by omega⟩ (by dsimp only; omega) (fun K => e_sub ⟨⟨_, rfl, Imp.of_eq (by rw [hft])⟩, s_t, s_t, s_t, s_t, s_t, trivial⟩ ⟨s_b, trivial⟩ trivial)
    · rw [gstep_no (of_decide_eq_false h2)] at hft
      try refine e_fl ?_
      refine e_plain (w_op rfl rfl rfl (s_bin rfl (kn rfl) (kn rfl) (v_add64 (by first | omega | (dsimp only; omega) | omega))) (w_mv rfl rfl rfl rfl rfl .nil)) ?_
      try refine e_fl ?_
      refine e_again ⟨k + 1, by omega⟩ (by dsimp only; omega) (fun K => e_sub ⟨⟨_, rfl, Imp.of_eq (by rw [hft])⟩, s_t, s_t, s_t, s_t, s_t, trivial⟩ ⟨s_b, trivial⟩ trivial)
  obtain rfl : k = v.list.length := by have := of_decide_eq_false h; omega
  rw [List.take_length]
  have hb2 := hgb v.list L1 (by omega)
  generalize v.list.foldl (gstep (vgreat d)) L1 = L2 at hb2 e2 ⊢
  try refine e_fl ?_
  refine e_plain (w_op rfl rfl rfl (s_faddr_box rfl (kn rfl) off_27_6) (w_op rfl rfl rfl (s_load1_box rfl (kn rfl) rfl rfl one_25) (w_op rfl rfl rfl (s_len rfl (kn rfl) sle_25) (w_mv rfl rfl rfl rfl rfl .nil)))) ?_
  try refine e_fl ?_
  refine e_loop (ι := { k : Nat // k ≤ (v.pairs).length })
    (fun k => [(1, .is (.int .i64 ((fun k => (gpairs (v.pairs.take k)).foldl (gstep (vgreat d)) L2) k.1))), (2, .is (.int .i64 ((d + 1 : Nat) : Int))), (3, .box 3 0), (61, .part (.one (.row 14 (v.pairs).length ((v.pairs).flatMap pairDats)))), (62, .is (.int .i64 ((v.pairs).length : Int))), (63, .is (.int .i64 (k.1 : Int)))])
    (fun _ => [(3, ⟨27, bcs (vd v)⟩)]) (fun _ => []) (fun k => (v.pairs).length - k.1) ⟨0, by omega⟩
    (fun K => e_sub ⟨s_t, s_t, s_t, s_t, s_t, s_t, trivial⟩ ⟨s_b, trivial⟩ trivial) ?_
  rintro ⟨k, hk⟩
  dsimp only at hk ⊢
  try refine e_fl ?_
  refine e_plain (w_op rfl rfl rfl (s_bin rfl (kn rfl) (kn rfl) v_lss) .nil) ?_
  try refine e_fl ?_
  refine e_cond rfl (fun h => ?_) (fun h => ?_)
  · have hlt : k < v.pairs.length := by have := of_decide_eq_true h; omega
    obtain ⟨x, hx⟩ : ∃ x, v.pairs[k]? = some x := ⟨_, List.getElem?_eq_getElem hlt⟩
    have hft := gpairs_take (g := gstep (vgreat d)) (l := L2) hx
    have hb := hgb (gpairs (v.pairs.take k)) L2 (by omega)
    generalize (gpairs (v.pairs.take k)).foldl (gstep (vgreat d)) L2 = M at hft hb ⊢
    try refine e_fl ?_
    refine e_list ?_
    refine l_op (s_index rfl (kn rfl) (kn rfl) (by omega) hx pairDats_len sle_25 esz_25 (pairDats_vd x)) ?_
    refine l_op (s_loadn_ref rfl (kn rfl) agg_62 sz_62) ?_
    refine e_alloc 12 [.is (.int .i64 0), .is (.int .u64 0), .is (.string ⟨#[]⟩), .is (.slice none 0 0), .is (.string ⟨#[]⟩), .is (.slice none 0 0), .is (.slice none 0 0), .is (.int .i64 0), .is (.int .u64 0), .is (.string ⟨#[]⟩), .is (.slice none 0 0), .is (.string ⟨#[]⟩), .is (.slice none 0 0), .is (.slice none 0 0)] rfl rfl rfl rfl zr_62 (fun w D M V => ⟨rfl, fun j x v h1 h2 => cfit_is _ h1 h2 rfl⟩) rfl rfl rfl rfl ?_
    refine e_storew rfl rfl rfl (kn rfl) rfl (kn rfl) rfl rfl sz_62 ?_
    refine e_nil ?_
    try refine e_fl ?_
    refine e_plain (w_mv rfl rfl rfl rfl rfl (w_op rfl rfl rfl (s_bin rfl (kn rfl) (kn rfl) v_geq) .nil)) ?_
    try refine e_fl ?_
    refine e_cond rfl (fun h2 => ?_) (fun h2 => ?_)
    · have hM := of_decide_eq_true h2
      rw [gstep_yes hM] at hft
      have hbd := vgreat_bd d x.1 M hM
      try refine e_fl ?_
      refine e_plain (w_op rfl rfl rfl (s_faddr_box rfl (kn rfl) off_62_0) (w_op rfl rfl rfl (s_loadn_box (ds := [_, _, _, _, _, _, _]) 7 rfl (kn rfl) rfl rfl agg_27 sz_27 rfl) (w_mv rfl rfl rfl rfl rfl (w_mv rfl rfl rfl rfl rfl (w_op rfl rfl rfl (s_bin rfl (kn rfl) (kn rfl) (v_dec d hd)) (w_op rfl rfl rfl (s_call rfl (by kernel_rfl) (ih x.1 M (hv.pair (List.mem_of_getElem? hx)).1 hM (by omega)) ⟨(kn rfl), ⟨(kn rfl), ⟨(kn rfl), trivial⟩⟩⟩) (w_as rfl rfl rfl rfl rfl .nil))))))) ?_
      try refine e_fl ?_
      try refine e_fl ?_
      refine e_plain (w_mv rfl rfl rfl rfl rfl (w_op rfl rfl rfl (s_bin rfl (kn rfl) (kn rfl) v_geq) .nil)) ?_
      try refine e_fl ?_
      refine e_cond rfl (fun h3 => ?_) (fun h3 => ?_)
      · have hM2 := of_decide_eq_true h3
        rw [gstep_yes hM2] at hft
        try refine e_fl ?_
        refine e_plain (w_op rfl rfl rfl (s_faddr_box rfl (kn rfl) off_62_1) (w_op rfl rfl rfl (s_loadn_box (ds := [_, _, _, _, _, _, _]) 7 rfl (kn rfl) rfl rfl agg_27 sz_27 rfl) (w_mv rfl rfl rfl rfl rfl (w_mv rfl rfl rfl rfl rfl (w_op rfl rfl rfl (s_bin rfl (kn rfl) (kn rfl) (v_dec d hd)) (w_op rfl rfl rfl (s_call rfl (by kernel_rfl) (ih x.2 (vgreat d x.1 M) (hv.pair (List.mem_of_getElem? hx)).2 hM2 (by omega)) ⟨(kn rfl), ⟨(kn rfl), ⟨(kn rfl), trivial⟩⟩⟩) (w_as rfl rfl rfl rfl rfl .nil))))))) ?_
        try refine e_fl ?_
        try refine e_fl ?_
        refine e_plain (w_op rfl rfl rfl (s_bin rfl (kn rfl) (kn rfl) (v_add64 (by first | omega | (dsimp only; omega) | omega))) (w_mv rfl rfl rfl rfl rfl .nil)) ?_
        try refine e_fl ?_
        refine e_again ⟨k + 1, by omega⟩ (by dsimp only; omega) (fun K => e_sub ⟨⟨_, rfl, Imp.of_eq (by rw [hft])⟩, s_t, s_t, s_t, s_t, s_t, trivial⟩ ⟨s_b, trivial⟩ trivial)
      · rw [gstep_no (of_decide_eq_false h3)] at hft
        try refine e_fl ?_
        refine e_plain (w_op rfl rfl rfl (s_bin rfl (kn rfl) (kn rfl) (v_add64 (by first | omega | (dsimp only; omega) | omega))) (w_mv rfl rfl rfl rfl rfl .nil)) ?_
        try refine e_fl ?_
        refine e_again ⟨k + 1, by omega⟩ (by dsimp only; omega) (fun K => e_sub ⟨⟨_, rfl, Imp.of_eq (by rw [hft])⟩, s_t, s_t, s_t, s_t, s_t, trivial⟩ ⟨s_b, trivial⟩ trivial)
    · rw [gstep_no (of_decide_eq_false h2), gstep_no (of_decide_eq_false h2)] at hft
      try refine e_fl ?_
      refine e_plain (w_mv rfl rfl rfl rfl rfl (w_op rfl rfl rfl (s_bin rfl (kn rfl) (kn rfl) v_geq) .nil)) ?_
      try refine e_fl ?_
      refine e_cond rfl (fun h3 => ?_) (fun h3 => ?_)
      · exact absurd (of_decide_eq_true h3) (of_decide_eq_false h2)
      try refine e_fl ?_
      refine e_plain (w_op rfl rfl rfl (s_bin rfl (kn rfl) (kn rfl) (v_add64 (by first | omega | (dsimp only; omega) | omega))) (w_mv rfl rfl rfl rfl rfl .nil)) ?_
      try refine e_fl ?_
      refine e_again ⟨k + 1, by omega⟩ (by dsimp only; omega) (fun K => e_sub ⟨⟨_, rfl, Imp.of_eq (by rw [hft])⟩, s_t, s_t, s_t, s_t, s_t, trivial⟩ ⟨s_b, trivial⟩ trivial)
  obtain rfl : k = v.pairs.length := by have := of_decide_eq_false h; omega
  rw [List.take_length]
  try refine e_fl ?_
  refine e_plain (w_mv rfl rfl rfl rfl rfl (w_as rfl rfl rfl rfl rfl .nil)) ?_
  try refine e_fl ?_
  exact e_return rfl rfl (.tmp (kn rfl) (.nil)) (Imp.of_eq (by rw [e2]; rfl)) rfl
theorem great_ef : ∀ d : Nat, d ≤ 1000 → GreatE d
  | 0, _ => great_zero
  | d + 1, h => great_succ d (by omega) (great_ef d (by omega))
def vbig (v : Vl) (most : Int) : Bool := decide (vgreat 30 v most < 0)
set_option maxRecDepth 100000 in
theorem big_ef (v : Vl) (most : Int) (hv : v.Fine) (h0 : 0 ≤ most) (h1 : most ≤ 1000000) : EF Try.prog [] 8 [.many (vd v), iP most] (.part (tP (vbig v most))) := by
  refine ef_enter 9 Try.func8 rfl rfl rfl fun w D => ?_
  try refine e_fl ?_
  refine e_list ?_
  refine e_box 2 rfl rfl rfl rfl (kn rfl) rfl rfl rfl rfl ?_
  refine l_as ?_
  refine e_nil ?_
  try refine e_fl ?_
  refine e_plain (w_op rfl rfl rfl (s_loadn_box (ds := [_, _, _, _, _, _, _]) 7 rfl (kn rfl) rfl rfl agg_27 sz_27 rfl) (w_mv rfl rfl rfl rfl rfl (w_op rfl rfl rfl (s_call rfl (by kernel_rfl) (great_ef 30 (by omega) v most hv h0 h1) ⟨(kn rfl), ⟨(kn rfl), ⟨(kn rfl), trivial⟩⟩⟩) (w_op rfl rfl rfl (s_bin rfl (kn rfl) (kn rfl) v_lss) (w_as rfl rfl rfl rfl rfl .nil))))) ?_
  try refine e_fl ?_
  exact e_return rfl rfl (.tmp (kn rfl) (.nil)) (Imp.of_eq rfl) rfl
theorem vbig_no {v : Vl} {most : Int} (h0 : 0 ≤ most) (h : vbig v most = false) : (vnodes v : Int) ≤ most ∧ v.Tx := by
  have h1 := of_decide_eq_false h
  have h2 := vgreat_ok 30 v most h0 (by omega)
  exact ⟨by omega, h2.2.tx⟩
end Go.Proofs.Ytlikbiiimhfnkaa
namespace Go.Proofs.Ytlikbiiimhfnkaa
open Go.RowKit
structure Vl.Good (v : Vl) : Prop where
  fine : v.Fine
  tx : v.Tx
  nodes : vnodes v ≤ 1000
def vnum (n : Nat) : Vl := .mk 1 n [] [] [] [] []
def vstr (s : List UInt8) : Vl := .mk 2 0 s [] [] [] []
structure ProgE : Prop where
  right : ∀ v : Vl, v.Good → EF Try.prog [] 10 [.many (vd v)] (.part (tP (vright v)))
  size : ∀ v : Vl, v.Good → EF Try.prog [] 12 [.many (vd v)] (.part (iP (vsize v)))
  depth : ∀ v : Vl, v.Good → EF Try.prog [] 14 [.many (vd v)] (.part (iP (vdepth v)))
  cmp : ∀ a b : Vl, a.Good → b.Good → EF Try.prog [] 16 [.many (vd a), .many (vd b)] (.part (iP (vcmp a b)))
  same : ∀ a b : Vl, a.Good → b.Good → EF Try.prog [] 18 [.many (vd a), .many (vd b)] (.part (tP (decide (vcmp a b = 0))))
  with_ : ∀ (v : Vl) (n : Int) (x : Vl), v.Good → x.Good → vright v = true → EF Try.prog [] 20 [.many (vd v), iP n, .many (vd x)] (.part (.many (vd (vwith v n x))))
  get : ∀ (v : Vl) (n : Int), v.Good → vright v = true → EF Try.prog [] 22 [.many (vd v), iP n] (.part (.many (vd (vget v n))))
  put : ∀ v k x : Vl, v.Good → k.Good → x.Good → vright v = true → EF Try.prog [] 24 [.many (vd v), .many (vd k), .many (vd x)] (.part (.many (vd (vput v k x))))
  find : ∀ v k : Vl, v.Good → k.Good → vright v = true → EF Try.prog [] 26 [.many (vd v), .many (vd k)] (.part (.many (vd (vfind v k))))
  num : ∀ n : Nat, EF Try.prog [] 28 [uP n] (.part (.many (vd (vnum n))))
  str : ∀ s : List UInt8, EF Try.prog [] 29 [sP s] (.part (.many (vd (vstr s))))
theorem fine_zero (k : Int) (n : Nat) (h1 : -9223372036854775808 ≤ k) (h2 : k < 9223372036854775808) (h3 : n < 18446744073709551616) : (Vl.mk k n [] [] [] [] []).Fine :=
  .mk _ h1 h2 h3 (Nat.zero_le _) (Nat.zero_le _) (Nat.zero_le _) (Nat.zero_le _) (Nat.zero_le _) (fun _ h => by cases h) (fun _ h => by cases h) (fun _ h => by cases h) (fun _ h => by cases h) (fun _ h => by cases h)
theorem good_zero (k : Int) (n : Nat) (h1 : -9223372036854775808 ≤ k) (h2 : k < 9223372036854775808) (h3 : n < 18446744073709551616) : (Vl.mk k n [] [] [] [] []).Good :=
  ⟨fine_zero k n h1 h2 h3, .mk _ (Nat.zero_le _) (Nat.zero_le _) (fun _ h => by cases h), by rw [vnodes_eq]; simp [Vl.list, Vl.fields, Vl.pairs, lnodes, fnodes, pnodes]⟩
def exV : Vl := .mk 3 0 [] [(1, vnum 7)] [] [] []
theorem exV_with : vwith (.mk 3 0 [] [] [] [] []) 1 (vnum 7) = exV := rfl
theorem good_exV : exV.Good := by
  have h := good_zero 1 7 (by decide) (by decide) (by decide)
  refine ⟨.mk _ (by decide) (by decide) (by decide) (Nat.zero_le _) (Nat.zero_le _) (show 1 ≤ maxLen by decide) (Nat.zero_le _) (Nat.zero_le _) (fun f hf => ?_) (fun f hf => ?_) (fun _ h => by cases h) (fun _ h => by cases h) (fun _ h => by cases h), .mk _ (Nat.zero_le _) (Nat.zero_le _) (fun x hx => ?_), by rw [vnodes_eq]; simp [exV, vnum, vnodes, Vl.list, Vl.fields, Vl.pairs, lnodes, fnodes, pnodes]⟩
  · obtain rfl : f = (1, vnum 7) := by simpa [exV, Vl.fields] using hf
    exact ⟨by decide, by decide⟩
  · obtain rfl : f = (1, vnum 7) := by simpa [exV, Vl.fields] using hf
    exact h.fine
  · obtain rfl : x = vnum 7 := by simpa [exV, rkids, Vl.list, Vl.fields, Vl.pairs, gpairs] using hx
    exact h.tx
theorem exE_right : vright (.mk 3 0 [] [] [] [] []) = true := by simp [vright, fright, lright, pright, vplain, Vl.kind, Vl.num, Vl.text, Vl.fields, Vl.rest, Vl.list, Vl.pairs]
theorem exV_right : vright exV = true := by simp [exV, vnum, vright, fright, lright, pright, vplain, Vl.kind, Vl.num, Vl.text, Vl.fields, Vl.rest, Vl.list, Vl.pairs]
theorem exV_ok : (vright exV && decide ((vsize exV : Int) = 2) && decide ((vdepth exV : Int) = 1) && decide (vcmp (vget exV 1) (vnum 7) = 0)) = true := by
  have h1 := exV_right
  have h2 : vsize exV = 2 := by simp [exV, vnum, vsize, fsize, lsize, psize]
  have h3 : vdepth exV = 1 := by simp [exV, vnum, vdepth, fdepth, ldepth, pdepth]
  have h4 : vget exV 1 = vnum 7 := rfl
  rw [h1, h2, h3, h4, vcmp_self]
  rfl
set_option maxRecDepth 100000 in
theorem alive_ef (hP : ProgE) : EF Try.prog [] 7 [] (.part (tP true)) := by
  refine ef_enter 23 Try.func7 rfl rfl rfl fun w D => ?_
  try refine e_fl ?_
  refine e_plain (w_as rfl rfl rfl rfl rfl .nil) ?_
  try refine e_fl ?_
  refine e_list ?_
  refine l_op (s_build (ds := [_, _, _, .row 8 0 [], _, .row 7 0 [], .row 14 0 []]) [(0, _)] rfl ⟨rfl, (kn rfl), trivial⟩ rfl pl_27 zr_27 (fun w D => .cons (.cell _) (.cons (.cell _) (.cons (.cell _) (.cons (.none _ _ _) (.cons (.cell _) (.cons (.none _ _ _) (.cons (.none _ _ _) (.nil _ _)))))))) rfl) ?_
  refine l_op (s_call rfl (by kernel_rfl) (hP.num 7) ⟨(kn rfl), trivial⟩) ?_
  refine l_op (s_call rfl (by kernel_rfl) (hP.with_ (.mk 3 0 [] [] [] [] []) 1 (vnum 7) (good_zero 3 0 (by decide) (by decide) (by decide)) (good_zero 1 7 (by decide) (by decide) (by decide)) exE_right) ⟨(kn rfl), ⟨(kn rfl), ⟨(kn rfl), trivial⟩⟩⟩) ?_
  refine e_alloc 1 [.is (.int .i64 0), .is (.int .u64 0), .is (.string ⟨#[]⟩), .is (.slice none 0 0), .is (.string ⟨#[]⟩), .is (.slice none 0 0), .is (.slice none 0 0)] rfl rfl rfl rfl zr_27 (fun w D M V => ⟨rfl, fun j x v h1 h2 => cfit_is _ h1 h2 rfl⟩) rfl rfl rfl rfl ?_
  refine e_storew rfl rfl rfl (kn rfl) rfl (kn rfl) rfl rfl sz_27 ?_
  refine e_nil ?_
  try refine e_fl ?_
  rw [exV_with]
  refine e_plain (w_op rfl rfl rfl (s_loadn_box (ds := [_, _, _, _, _, _, _]) 7 rfl (kn rfl) rfl rfl agg_27 sz_27 rfl) (w_op rfl rfl rfl (s_call rfl (by kernel_rfl) (hP.right exV good_exV) ⟨(kn rfl), trivial⟩) (w_mv rfl rfl rfl rfl rfl (Walk.gd _ rfl rfl rfl (fun h => s_loadn_box (ds := [_, _, _, _, _, _, _]) 7 rfl (kn rfl) rfl rfl agg_27 sz_27 rfl) (Walk.gd _ rfl rfl rfl (fun h => s_call rfl (by kernel_rfl) (hP.size exV good_exV) ⟨(kn_opt rfl h), trivial⟩) (Walk.gd _ rfl rfl rfl (fun h => s_bin rfl (kn_opt rfl h) (kn rfl) v_eql) (w_op rfl rfl rfl (s_and rfl (kn rfl) (fun hb => kn_opt rfl hb)) (w_mv rfl rfl rfl rfl rfl (Walk.gd _ rfl rfl rfl (fun h => s_loadn_box (ds := [_, _, _, _, _, _, _]) 7 rfl (kn rfl) rfl rfl agg_27 sz_27 rfl) (Walk.gd _ rfl rfl rfl (fun h => s_call rfl (by kernel_rfl) (hP.depth exV good_exV) ⟨(kn_opt rfl h), trivial⟩) (Walk.gd _ rfl rfl rfl (fun h => s_bin rfl (kn_opt rfl h) (kn rfl) v_eql) (w_op rfl rfl rfl (s_and rfl (kn rfl) (fun hb => kn_opt rfl hb)) (w_mv rfl rfl rfl rfl rfl (Walk.gd _ rfl rfl rfl (fun h => s_loadn_box (ds := [_, _, _, _, _, _, _]) 7 rfl (kn rfl) rfl rfl agg_27 sz_27 rfl) (Walk.gd _ rfl rfl rfl (fun h => s_call rfl (by kernel_rfl) (hP.get exV 1 good_exV exV_right) ⟨(kn_opt rfl h), ⟨(kn rfl), trivial⟩⟩) (Walk.gd _ rfl rfl rfl (fun h => s_call rfl (by kernel_rfl) (hP.num 7) ⟨(kn rfl), trivial⟩) (Walk.gd _ rfl rfl rfl (fun h => s_call rfl (by kernel_rfl) (hP.same (vget exV 1) (vnum 7) (good_zero 1 7 (by decide) (by decide) (by decide)) (good_zero 1 7 (by decide) (by decide) (by decide))) ⟨(kn_opt rfl h), ⟨(kn_opt rfl h), trivial⟩⟩) (w_op rfl rfl rfl (s_and rfl (kn rfl) (fun hb => kn_opt rfl hb)) (w_as rfl rfl rfl rfl rfl .nil))))))))))))))))))) ?_
  try refine e_fl ?_
  exact e_return rfl rfl (.tmp (kn rfl) (.nil)) (Imp.of_eq (by rw [exV_ok]; rfl)) rfl
end Go.Proofs.Ytlikbiiimhfnkaa
namespace Go.Proofs.Ytlikbiiimhfnkaa
open Go.RowKit
theorem good_of {v : Vl} {most : Int} (hv : v.Fine) (h0 : 0 ≤ most) (h1 : most ≤ 1000) (h : vbig v most = false) : v.Good := by
  obtain ⟨h2, h3⟩ := vbig_no h0 h
  exact ⟨hv, h3, by omega⟩
end Go.Proofs.Ytlikbiiimhfnkaa
