/- Part 30 of what the last text of this claim is proved by: walks over the program, and the math behind them. Conditions: as each theorem says. -/
import Derived.Test.YtekeanikgcpijaaGreatDoorSL29
import Derived.Test.YtekeanikgcpijaaGreatDoorProg
namespace Go.Proofs.YtekeanikgcpijaaGreatDoor
open Go.RowKit
set_option maxRecDepth 100000 in
theorem ofEnum_ef (a : Enm) (ha : a.fine) : EF Tryz.prog [] 25 [.many a.dats] (.part (.many a.dats)) := by
 refine ef_enter 28 Tryz.func25 rfl rfl rfl fun w D => ?_
 try refine e_fl ?_
 unfold Enm.fine at ha
 refine e_list ?_
 refine e_box 1 rfl rfl rfl rfl (kn rfl) rfl rfl rfl rfl ?_
 refine e_alloc 2 [.is (.string ⟨#[]⟩), .is (.slice none 0 0), .is (.int .i64 0), .is (.int .i64 0)] rfl rfl rfl rfl zr_85 (fun w D M V => ⟨rfl, fun j x v h1 h2 => cfit_is _ h1 h2 rfl⟩) rfl rfl rfl rfl ?_
 refine e_nil ?_
 try refine e_fl ?_
 refine e_list ?_
 refine l_op (s_faddr_box rfl (kn rfl) off_82_0) ?_
 refine l_op (s_load1_box rfl (kn rfl) rfl rfl one_9) ?_
 refine l_op (s_faddr_box rfl (kn rfl) off_82_2) ?_
 refine l_op (s_load1_box rfl (kn rfl) rfl rfl one_3) ?_
 refine l_op (s_faddr_box rfl (kn rfl) off_82_3) ?_
 refine l_op (s_load1_box rfl (kn rfl) rfl rfl one_3) ?_
 refine l_op (s_build (ds := [_, _, _, _]) [(0, _), (2, _), (3, _)] rfl ⟨rfl, (kn rfl), ⟨rfl, (kn rfl), ⟨rfl, (kn rfl), trivial⟩⟩⟩ rfl pl_85 zr_85 (fun w D => .cons (.cell _) (.cons (.cell _) (.cons (.cell _) (.cons (.cell _) (.nil _ _))))) rfl) ?_
 refine e_alloc 3 [.is (.string ⟨#[]⟩), .is (.slice none 0 0), .is (.int .i64 0), .is (.int .i64 0)] rfl rfl rfl rfl zr_85 (fun w D M V => ⟨rfl, fun j x v h1 h2 => cfit_is _ h1 h2 rfl⟩) rfl rfl rfl rfl ?_
 refine e_storew rfl rfl rfl (kn rfl) rfl (kn rfl) rfl rfl sz_85 ?_
 refine e_nil ?_
 try refine e_fl ?_
 refine e_row_cell 3 1 100 117 4 rfl rfl rfl rfl rfl ?_
 refine e_plain (w_op rfl rfl rfl (s_faddr_box rfl (kn rfl) off_82_1) (w_op rfl rfl rfl (s_load1_box rfl (kn rfl) rfl rfl one_80) (w_op rfl rfl rfl (s_len rfl (kn rfl) sle_80) (w_mv rfl rfl rfl rfl rfl .nil)))) ?_
 try refine e_fl ?_
 refine e_loop (ι := { k : Nat // k ≤ (a.vals).length })
  (fun k => [(1, .box 1 0), (2, .box 2 0), (3, .box 3 0), (14, .part (.one (.row 4 (a.vals).length ((a.vals).flatMap Val.dats)))), (15, .is (.int .i64 ((a.vals).length : Int))), (16, .is (.int .i64 (k.1 : Int)))])
  (fun _ => [(1, ⟨82, bcs a.dats⟩), (2, ⟨85, [.is (.string ⟨#[]⟩), .is (.slice none 0 0), .is (.int .i64 0), .is (.int .i64 0)]⟩), (3, ⟨85, [.is (.string (str a.name)), .own 100, .is (.int .i64 a.line), .is (.int .i64 a.col)]⟩)]) (fun k => [(100, ⟨117, 4, k.1, (a.vals.take k.1).flatMap Val.dats, false⟩)]) (fun k => (a.vals).length - k.1) ⟨0, by omega⟩
  (fun K => e_sub ⟨s_t, s_t, s_t, s_t, s_t, s_t, trivial⟩ ⟨s_b, s_b, s_b, trivial⟩ ⟨rfl, trivial⟩) ?_
 rintro ⟨k, hk⟩
 dsimp only at hk ⊢
 try refine e_fl ?_
 refine e_plain (w_op rfl rfl rfl (s_bin rfl (kn rfl) (kn rfl) v_lss) .nil) ?_
 try refine e_fl ?_
 refine e_cond rfl (fun h => ?_) (fun h => ?_)
 ·have hlt : k < (a.vals).length := by have := of_decide_eq_true h; omega
  obtain ⟨x, hx⟩ : ∃ x, (a.vals)[k]? = some x := ⟨_, List.getElem?_eq_getElem hlt⟩
  have htk : (a.vals).take (k + 1) = (a.vals).take k ++ [x] := by rw [List.take_add_one, hx]; rfl
  try refine e_fl ?_
  refine e_list ?_
  refine l_op (s_index rfl (kn rfl) (kn rfl) (by omega) hx Val.dats_len sle_80 esz_80 rfl) ?_
  refine l_op (s_loadn_ref rfl (kn rfl) agg_116 sz_116) ?_
  refine e_alloc 5 [.is (.string ⟨#[]⟩), .is (.int .i64 0), .is (.int .i64 0), .is (.int .i64 0)] rfl rfl rfl rfl zr_116 (fun w D M V => ⟨rfl, fun j x v h1 h2 => cfit_is _ h1 h2 rfl⟩) rfl rfl rfl rfl ?_
  refine e_storew rfl rfl rfl (kn rfl) rfl (kn rfl) rfl rfl sz_116 ?_
  refine e_nil ?_
  try refine e_fl ?_
  refine e_list ?_
  refine l_op (s_faddr_box rfl (kn rfl) off_85_1) ?_
  refine l_op (s_load1_box rfl (kn rfl) rfl rfl one_83) ?_
  refine l_op (s_loadn_box (ds := [_, _, _, _]) 4 rfl (kn rfl) rfl rfl agg_116 sz_116 rfl) ?_
  refine l_op (s_buildSlice (ds := [_, _, _, _]) [(0, _)] rfl ⟨rfl, (kn rfl), trivial⟩ rfl sl_83 sz_117 zr_117 (fun w D => .cons (.cell _) (.cons (.cell _) (.cons (.cell _) (.cons (.cell _) (.nil _ _))))) rfl rfl rfl rfl rfl) ?_
  refine e_append rfl rfl rfl rfl (kn rfl) rfl (kn rfl) sl_83 ap_83 rfl rfl (by first | omega | (dsimp only; omega) | omega) (by first | omega | (dsimp only; omega) | omega) ?_
  refine l_op (s_faddr_box rfl (kn rfl) off_85_1) ?_
  refine e_store_own rfl rfl rfl (kn rfl) rfl (kn rfl) rfl rfl sz_83 rfl ?_
  refine e_nil ?_
  try refine e_fl ?_
  refine e_plain (w_op rfl rfl rfl (s_bin rfl (kn rfl) (kn rfl) (v_add64 (by first | omega | (dsimp only; omega) | omega))) (w_mv rfl rfl rfl rfl rfl .nil)) ?_
  try refine e_fl ?_
  refine e_again ⟨k + 1, by omega⟩ (by dsimp only; omega) (fun K => e_sub ⟨s_t, s_t, s_t, s_t, s_t, s_t, trivial⟩ ⟨s_b, s_b, s_b, trivial⟩ ⟨rowEq rfl (by simp) (by rw [htk]; simp [List.flatMap_append, Val.dats, Val.cells]), trivial⟩)
 obtain rfl : k = (a.vals).length := by have := of_decide_eq_false h; omega
 try refine e_fl ?_
 refine e_freeze_cell 3 1 100 rfl rfl rfl rfl rfl ?_
 rw [List.take_length]
 refine e_list ?_
 refine l_op (s_loadn_box (ds := [_, _, _, _]) 4 rfl (kn rfl) rfl rfl agg_85 sz_85 rfl) ?_
 refine e_storew rfl rfl rfl (kn rfl) rfl (kn rfl) rfl rfl sz_85 ?_
 refine e_nil ?_
 try refine e_fl ?_
 exact e_return rfl rfl (.cell rfl rfl rfl agg_85 sz_85 rfl (.nil)) (Imp.of_eq rfl) rfl
abbrev cR (a : Msg) (f m e r : Nat) : RL := [(100, ⟨111, 10, f, (a.fields.take f).flatMap Fld.dats, false⟩), (102, ⟨78, 9, m, (a.msgs.take m).flatMap Msg.dats, false⟩), (103, ⟨85, 4, e, (a.enums.take e).flatMap Enm.dats, false⟩), (104, ⟨114, 2, r, (a.reserved.take r).flatMap rangeDats, false⟩)]
abbrev cB (a : Msg) : BL := [(1, ⟨62, bcs (md a)⟩), (2, ⟨78, [.is (.string ⟨#[]⟩), .is (.slice none 0 0), .is (.slice none 0 0), .is (.slice none 0 0), .is (.slice none 0 0), .is (.slice none 0 0), .is (.slice none 0 0), .is (.int .i64 0), .is (.int .i64 0)]⟩), (3, ⟨78, [.is (.string (str a.name)), .own 100, .part (txsP a.oneofs), .own 102, .own 103, .own 104, .part (txsP a.names), .is (.int .i64 a.line), .is (.int .i64 a.col)]⟩)]
set_option maxRecDepth 100000 in
set_option maxHeartbeats 4000000 in
theorem ofMessage_step (a : Msg) (ha : a.fine) (ih : ∀ k ∈ a.msgs, EF Tryz.prog [] 24 [.many (md k)] (.part (.many (md k)))) : EF Tryz.prog [] 24 [.many (md a)] (.part (.many (md a))) := by
 refine ef_enter 82 Tryz.func24 rfl rfl rfl fun w D => ?_
 try refine e_fl ?_
 obtain ⟨f1, f2, f3, f4, f5, f6, f7, f8⟩ := (Msg.fine_iff a).1 ha
 refine e_list ?_
 refine e_box 1 rfl rfl rfl rfl (kn rfl) rfl rfl rfl rfl ?_
 refine e_alloc 2 [.is (.string ⟨#[]⟩), .is (.slice none 0 0), .is (.slice none 0 0), .is (.slice none 0 0), .is (.slice none 0 0), .is (.slice none 0 0), .is (.slice none 0 0), .is (.int .i64 0), .is (.int .i64 0)] rfl rfl rfl rfl zr_78 (fun w D M V => ⟨rfl, fun j x v h1 h2 => cfit_is _ h1 h2 rfl⟩) rfl rfl rfl rfl ?_
 refine e_nil ?_
 try refine e_fl ?_
 refine e_list ?_
 refine l_op (s_faddr_box rfl (kn rfl) off_62_0) ?_
 refine l_op (s_load1_box rfl (kn rfl) rfl rfl one_9) ?_
 refine l_op (s_faddr_box rfl (kn rfl) off_62_2) ?_
 refine l_op (s_load1_box rfl (kn rfl) rfl rfl one_45) ?_
 refine l_op (s_faddr_box rfl (kn rfl) off_62_6) ?_
 refine l_op (s_load1_box rfl (kn rfl) rfl rfl one_45) ?_
 refine l_op (s_faddr_box rfl (kn rfl) off_62_7) ?_
 refine l_op (s_load1_box rfl (kn rfl) rfl rfl one_3) ?_
 refine l_op (s_faddr_box rfl (kn rfl) off_62_8) ?_
 refine l_op (s_load1_box rfl (kn rfl) rfl rfl one_3) ?_
 refine l_op (s_build (ds := [_, _, _, _, _, _, _, _, _]) [(0, _), (2, _), (6, _), (7, _), (8, _)] rfl ⟨rfl, (kn rfl), ⟨rfl, (kn rfl), ⟨rfl, (kn rfl), ⟨rfl, (kn rfl), ⟨rfl, (kn rfl), trivial⟩⟩⟩⟩⟩ rfl pl_78 zr_78 (fun w D => .cons (.cell _) (.cons (.cell _) (.cons (.cell _) (.cons (.cell _) (.cons (.cell _) (.cons (.cell _) (.cons (.cell _) (.cons (.cell _) (.cons (.cell _) (.nil _ _)))))))))) rfl) ?_
 refine e_alloc 3 [.is (.string ⟨#[]⟩), .is (.slice none 0 0), .is (.slice none 0 0), .is (.slice none 0 0), .is (.slice none 0 0), .is (.slice none 0 0), .is (.slice none 0 0), .is (.int .i64 0), .is (.int .i64 0)] rfl rfl rfl rfl zr_78 (fun w D M V => ⟨rfl, fun j x v h1 h2 => cfit_is _ h1 h2 rfl⟩) rfl rfl rfl rfl ?_
 refine e_storew rfl rfl rfl (kn rfl) rfl (kn rfl) rfl rfl sz_78 ?_
 refine e_nil ?_
 try refine e_fl ?_
 refine e_row_cell 3 1 100 111 10 rfl rfl rfl rfl rfl ?_
 refine e_row_cell 3 3 102 78 9 rfl rfl rfl rfl rfl ?_
 refine e_row_cell 3 4 103 85 4 rfl rfl rfl rfl rfl ?_
 refine e_row_cell 3 5 104 114 2 rfl rfl rfl rfl rfl ?_
 refine e_plain (w_op rfl rfl rfl (s_faddr_box rfl (kn rfl) off_62_1) (w_op rfl rfl rfl (s_load1_box rfl (kn rfl) rfl rfl one_59) (w_op rfl rfl rfl (s_len rfl (kn rfl) sle_59) (w_mv rfl rfl rfl rfl rfl .nil)))) ?_
 try refine e_fl ?_
 refine e_loop (ι := { k : Nat // k ≤ (a.fields).length })
  (fun k => [(1, .box 1 0), (2, .box 2 0), (3, .box 3 0), (24, .part (.one (.row 10 (a.fields).length ((a.fields).flatMap Fld.dats)))), (25, .is (.int .i64 ((a.fields).length : Int))), (26, .is (.int .i64 (k.1 : Int)))])
  (fun _ => cB a) (fun k => cR a k.1 0 0 0) (fun k => (a.fields).length - k.1) ⟨0, by omega⟩
  (fun K => e_sub ⟨s_t, s_t, s_t, s_t, s_t, s_t, trivial⟩ ⟨s_b, s_b, s_b, trivial⟩ ⟨rfl, rfl, rfl, rfl, trivial⟩) ?_
 rintro ⟨k, hk⟩
 dsimp only at hk ⊢
 try refine e_fl ?_
 refine e_plain (w_op rfl rfl rfl (s_bin rfl (kn rfl) (kn rfl) v_lss) .nil) ?_
 try refine e_fl ?_
 refine e_cond rfl (fun h => ?_) (fun h => ?_)
 ·have hlt : k < (a.fields).length := by have := of_decide_eq_true h; omega
  obtain ⟨x, hx⟩ : ∃ x, (a.fields)[k]? = some x := ⟨_, List.getElem?_eq_getElem hlt⟩
  have htk : (a.fields).take (k + 1) = (a.fields).take k ++ [x] := by rw [List.take_add_one, hx]; rfl
  try refine e_fl ?_
  refine e_list ?_
  refine l_op (s_index rfl (kn rfl) (kn rfl) (by omega) hx Fld.dats_len sle_59 esz_59 rfl) ?_
  refine l_op (s_loadn_ref rfl (kn rfl) agg_110 sz_110) ?_
  refine e_alloc 5 [.is (.string ⟨#[]⟩), .is (.string ⟨#[]⟩), .is (.string ⟨#[]⟩), .is (.string ⟨#[]⟩), .is (.int .i64 0), .is (.int .i64 0), .is (.int .i64 0), .is (.int .i64 0), .is (.int .i64 0), .is (.int .i64 0)] rfl rfl rfl rfl zr_110 (fun w D M V => ⟨rfl, fun j x v h1 h2 => cfit_is _ h1 h2 rfl⟩) rfl rfl rfl rfl ?_
  refine e_storew rfl rfl rfl (kn rfl) rfl (kn rfl) rfl rfl sz_110 ?_
  refine e_nil ?_
  try refine e_fl ?_
  refine e_list ?_
  refine l_op (s_faddr_box rfl (kn rfl) off_78_1) ?_
  refine l_op (s_load1_box rfl (kn rfl) rfl rfl one_75) ?_
  refine l_op (s_loadn_box (ds := [_, _, _, _, _, _, _, _, _, _]) 10 rfl (kn rfl) rfl rfl agg_110 sz_110 rfl) ?_
  refine l_op (s_buildSlice (ds := [_, _, _, _, _, _, _, _, _, _]) [(0, _)] rfl ⟨rfl, (kn rfl), trivial⟩ rfl sl_75 sz_111 zr_111 (fun w D => .cons (.cell _) (.cons (.cell _) (.cons (.cell _) (.cons (.cell _) (.cons (.cell _) (.cons (.cell _) (.cons (.cell _) (.cons (.cell _) (.cons (.cell _) (.cons (.cell _) (.nil _ _))))))))))) rfl rfl rfl rfl rfl) ?_
  refine e_append rfl rfl rfl rfl (kn rfl) rfl (kn rfl) sl_75 ap_75 rfl rfl (by first | omega | (dsimp only; omega) | omega) (by first | omega | (dsimp only; omega) | omega) ?_
  refine l_op (s_faddr_box rfl (kn rfl) off_78_1) ?_
  refine e_store_own rfl rfl rfl (kn rfl) rfl (kn rfl) rfl rfl sz_75 rfl ?_
  refine e_nil ?_
  try refine e_fl ?_
  refine e_plain (w_op rfl rfl rfl (s_bin rfl (kn rfl) (kn rfl) (v_add64 (by first | omega | (dsimp only; omega) | omega))) (w_mv rfl rfl rfl rfl rfl .nil)) ?_
  try refine e_fl ?_
  refine e_again ⟨k + 1, by omega⟩ (by dsimp only; omega) (fun K => e_sub ⟨s_t, s_t, s_t, s_t, s_t, s_t, trivial⟩ ⟨s_b, s_b, s_b, trivial⟩ ⟨rowEq rfl (by simp) (by rw [htk]; simp [List.flatMap_append, dats_md, md, Fld.dats, Fld.cells, Enm.dats, rangeDats]), rfl, rfl, rfl, trivial⟩)
 obtain rfl : k = (a.fields).length := by have := of_decide_eq_false h; omega
 try refine e_fl ?_
 refine e_plain (w_op rfl rfl rfl (s_faddr_box rfl (kn rfl) off_62_5) (w_op rfl rfl rfl (s_load1_box rfl (kn rfl) rfl rfl one_60) (w_op rfl rfl rfl (s_len rfl (kn rfl) sle_60) (w_mv rfl rfl rfl rfl rfl .nil)))) ?_
 try refine e_fl ?_
 refine e_loop (ι := { k : Nat // k ≤ (a.reserved).length })
  (fun k => [(1, .box 1 0), (2, .box 2 0), (3, .box 3 0), (38, .part (.one (.row 2 (a.reserved).length ((a.reserved).flatMap rangeDats)))), (39, .is (.int .i64 ((a.reserved).length : Int))), (40, .is (.int .i64 (k.1 : Int)))])
  (fun _ => cB a) (fun k => cR a a.fields.length 0 0 k.1) (fun k => (a.reserved).length - k.1) ⟨0, by omega⟩
  (fun K => e_sub ⟨s_t, s_t, s_t, s_t, s_t, s_t, trivial⟩ ⟨s_b, s_b, s_b, trivial⟩ ⟨rfl, rfl, rfl, rfl, trivial⟩) ?_
 rintro ⟨k, hk⟩
 dsimp only at hk ⊢
 try refine e_fl ?_
 refine e_plain (w_op rfl rfl rfl (s_bin rfl (kn rfl) (kn rfl) v_lss) .nil) ?_
 try refine e_fl ?_
 refine e_cond rfl (fun h => ?_) (fun h => ?_)
 ·have hlt : k < (a.reserved).length := by have := of_decide_eq_true h; omega
  obtain ⟨x, hx⟩ : ∃ x, (a.reserved)[k]? = some x := ⟨_, List.getElem?_eq_getElem hlt⟩
  have htk : (a.reserved).take (k + 1) = (a.reserved).take k ++ [x] := by rw [List.take_add_one, hx]; rfl
  try refine e_fl ?_
  refine e_list ?_
  refine l_op (s_index rfl (kn rfl) (kn rfl) (by omega) hx rangeDats_len sle_60 esz_60 rfl) ?_
  refine l_op (s_loadn_ref rfl (kn rfl) agg_113 sz_113) ?_
  refine e_alloc 7 [.is (.int .i64 0), .is (.int .i64 0)] rfl rfl rfl rfl zr_113 (fun w D M V => ⟨rfl, fun j x v h1 h2 => cfit_is _ h1 h2 rfl⟩) rfl rfl rfl rfl ?_
  refine e_storew rfl rfl rfl (kn rfl) rfl (kn rfl) rfl rfl sz_113 ?_
  refine e_nil ?_
  try refine e_fl ?_
  refine e_list ?_
  refine l_op (s_faddr_box rfl (kn rfl) off_78_5) ?_
  refine l_op (s_load1_box rfl (kn rfl) rfl rfl one_76) ?_
  refine l_op (s_loadn_box (ds := [_, _]) 2 rfl (kn rfl) rfl rfl agg_113 sz_113 rfl) ?_
  refine l_op (s_buildSlice (ds := [_, _]) [(0, _)] rfl ⟨rfl, (kn rfl), trivial⟩ rfl sl_76 sz_114 zr_114 (fun w D => .cons (.cell _) (.cons (.cell _) (.nil _ _))) rfl rfl rfl rfl rfl) ?_
  refine e_append rfl rfl rfl rfl (kn rfl) rfl (kn rfl) sl_76 ap_76 rfl rfl (by first | omega | (dsimp only; omega) | omega) (by first | omega | (dsimp only; omega) | omega) ?_
  refine l_op (s_faddr_box rfl (kn rfl) off_78_5) ?_
  refine e_store_own rfl rfl rfl (kn rfl) rfl (kn rfl) rfl rfl sz_76 rfl ?_
  refine e_nil ?_
  try refine e_fl ?_
  refine e_plain (w_op rfl rfl rfl (s_bin rfl (kn rfl) (kn rfl) (v_add64 (by first | omega | (dsimp only; omega) | omega))) (w_mv rfl rfl rfl rfl rfl .nil)) ?_
  try refine e_fl ?_
  refine e_again ⟨k + 1, by omega⟩ (by dsimp only; omega) (fun K => e_sub ⟨s_t, s_t, s_t, s_t, s_t, s_t, trivial⟩ ⟨s_b, s_b, s_b, trivial⟩ ⟨rfl, rfl, rfl, rowEq rfl (by simp) (by rw [htk]; simp [List.flatMap_append, dats_md, md, Fld.dats, Fld.cells, Enm.dats, rangeDats]), trivial⟩)
 obtain rfl : k = (a.reserved).length := by have := of_decide_eq_false h; omega
 try refine e_fl ?_
 refine e_plain (w_op rfl rfl rfl (s_faddr_box rfl (kn rfl) off_62_3) (w_op rfl rfl rfl (s_load1_box rfl (kn rfl) rfl rfl one_23) (w_op rfl rfl rfl (s_len rfl (kn rfl) sle_23) (w_mv rfl rfl rfl rfl rfl .nil)))) ?_
 try refine e_fl ?_
 refine e_loop (ι := { k : Nat // k ≤ (a.msgs).length })
  (fun k => [(1, .box 1 0), (2, .box 2 0), (3, .box 3 0), (52, .part (.one (.row 9 (a.msgs).length ((a.msgs).flatMap Msg.dats)))), (53, .is (.int .i64 ((a.msgs).length : Int))), (54, .is (.int .i64 (k.1 : Int)))])
  (fun _ => cB a) (fun k => cR a a.fields.length k.1 0 a.reserved.length) (fun k => (a.msgs).length - k.1) ⟨0, by omega⟩
  (fun K => e_sub ⟨s_t, s_t, s_t, s_t, s_t, s_t, trivial⟩ ⟨s_b, s_b, s_b, trivial⟩ ⟨rfl, rfl, rfl, rfl, trivial⟩) ?_
 rintro ⟨k, hk⟩
 dsimp only at hk ⊢
 try refine e_fl ?_
 refine e_plain (w_op rfl rfl rfl (s_bin rfl (kn rfl) (kn rfl) v_lss) .nil) ?_
 try refine e_fl ?_
 refine e_cond rfl (fun h => ?_) (fun h => ?_)
 ·have hlt : k < (a.msgs).length := by have := of_decide_eq_true h; omega
  obtain ⟨x, hx⟩ : ∃ x, (a.msgs)[k]? = some x := ⟨_, List.getElem?_eq_getElem hlt⟩
  have htk : (a.msgs).take (k + 1) = (a.msgs).take k ++ [x] := by rw [List.take_add_one, hx]; rfl
  try refine e_fl ?_
  refine e_list ?_
  refine l_op (s_index rfl (kn rfl) (kn rfl) (by omega) hx Msg.dats_len sle_23 esz_23 (dats_md x)) ?_
  refine l_op (s_loadn_ref rfl (kn rfl) agg_62 sz_62) ?_
  refine e_alloc 9 [.is (.string ⟨#[]⟩), .is (.slice none 0 0), .is (.slice none 0 0), .is (.slice none 0 0), .is (.slice none 0 0), .is (.slice none 0 0), .is (.slice none 0 0), .is (.int .i64 0), .is (.int .i64 0)] rfl rfl rfl rfl zr_62 (fun w D M V => ⟨rfl, fun j x v h1 h2 => cfit_is _ h1 h2 rfl⟩) rfl rfl rfl rfl ?_
  refine e_storew rfl rfl rfl (kn rfl) rfl (kn rfl) rfl rfl sz_62 ?_
  refine e_nil ?_
  try refine e_fl ?_
  refine e_draw_tail 5 mixed (by kernel_rfl) (w_op rfl rfl rfl (s_faddr_box rfl (kn rfl) off_78_3) (w_op rfl rfl rfl (s_load1_box rfl (kn rfl) rfl rfl one_37) (w_op rfl rfl rfl (s_loadn_box (ds := [_, _, _, _, _, _, _, _, _]) 9 rfl (kn rfl) rfl rfl agg_62 sz_62 rfl) (w_op rfl rfl rfl (s_call rfl (by kernel_rfl) (ih x (List.mem_of_getElem? hx)) ⟨(kn rfl), trivial⟩) (w_op rfl rfl rfl (s_buildSlice (ds := [_, _, _, _, _, _, _, _, _]) [(0, _)] rfl ⟨rfl, (kn rfl), trivial⟩ rfl sl_37 sz_78 zr_78 (fun w D => .cons (.cell _) (.cons (.cell _) (.cons (.cell _) (.cons (.cell _) (.cons (.cell _) (.cons (.cell _) (.cons (.cell _) (.cons (.cell _) (.cons (.cell _) (.nil _ _)))))))))) rfl rfl rfl rfl rfl) .nil))))) ?_
  refine e_append rfl rfl rfl rfl (kn rfl) rfl (kn rfl) sl_37 ap_37 rfl rfl (by first | omega | (dsimp only; omega) | omega) (by first | omega | (dsimp only; omega) | omega) ?_
  refine l_op (s_faddr_box rfl (kn rfl) off_78_3) ?_
  refine e_store_own rfl rfl rfl (kn rfl) rfl (kn rfl) rfl rfl sz_37 rfl ?_
  refine e_nil ?_
  try refine e_fl ?_
  refine e_plain (w_op rfl rfl rfl (s_bin rfl (kn rfl) (kn rfl) (v_add64 (by first | omega | (dsimp only; omega) | omega))) (w_mv rfl rfl rfl rfl rfl .nil)) ?_
  try refine e_fl ?_
  refine e_again ⟨k + 1, by omega⟩ (by dsimp only; omega) (fun K => e_sub ⟨s_t, s_t, s_t, s_t, s_t, s_t, trivial⟩ ⟨s_b, s_b, s_b, trivial⟩ ⟨rfl, rowEq rfl (by simp) (by rw [htk]; simp [List.flatMap_append, dats_md, md, Fld.dats, Fld.cells, Enm.dats, rangeDats]), rfl, rfl, trivial⟩)
 obtain rfl : k = (a.msgs).length := by have := of_decide_eq_false h; omega
 try refine e_fl ?_
 refine e_plain (w_op rfl rfl rfl (s_faddr_box rfl (kn rfl) off_62_4) (w_op rfl rfl rfl (s_load1_box rfl (kn rfl) rfl rfl one_24) (w_op rfl rfl rfl (s_len rfl (kn rfl) sle_24) (w_mv rfl rfl rfl rfl rfl .nil)))) ?_
 try refine e_fl ?_
 refine e_loop (ι := { k : Nat // k ≤ (a.enums).length })
  (fun k => [(1, .box 1 0), (2, .box 2 0), (3, .box 3 0), (67, .part (.one (.row 4 (a.enums).length ((a.enums).flatMap Enm.dats)))), (68, .is (.int .i64 ((a.enums).length : Int))), (69, .is (.int .i64 (k.1 : Int)))])
  (fun _ => cB a) (fun k => cR a a.fields.length a.msgs.length k.1 a.reserved.length) (fun k => (a.enums).length - k.1) ⟨0, by omega⟩
  (fun K => e_sub ⟨s_t, s_t, s_t, s_t, s_t, s_t, trivial⟩ ⟨s_b, s_b, s_b, trivial⟩ ⟨rfl, rfl, rfl, rfl, trivial⟩) ?_
 rintro ⟨k, hk⟩
 dsimp only at hk ⊢
 try refine e_fl ?_
 refine e_plain (w_op rfl rfl rfl (s_bin rfl (kn rfl) (kn rfl) v_lss) .nil) ?_
 try refine e_fl ?_
 refine e_cond rfl (fun h => ?_) (fun h => ?_)
 ·have hlt : k < (a.enums).length := by have := of_decide_eq_true h; omega
  obtain ⟨x, hx⟩ : ∃ x, (a.enums)[k]? = some x := ⟨_, List.getElem?_eq_getElem hlt⟩
  have htk : (a.enums).take (k + 1) = (a.enums).take k ++ [x] := by rw [List.take_add_one, hx]; rfl
  try refine e_fl ?_
  refine e_list ?_
  refine l_op (s_index rfl (kn rfl) (kn rfl) (by omega) hx Enm.dats_len sle_24 esz_24 rfl) ?_
  refine l_op (s_loadn_ref rfl (kn rfl) agg_82 sz_82) ?_
  refine e_alloc 11 [.is (.string ⟨#[]⟩), .is (.slice none 0 0), .is (.int .i64 0), .is (.int .i64 0)] rfl rfl rfl rfl zr_82 (fun w D M V => ⟨rfl, fun j x v h1 h2 => cfit_is _ h1 h2 rfl⟩) rfl rfl rfl rfl ?_
  refine e_storew rfl rfl rfl (kn rfl) rfl (kn rfl) rfl rfl sz_82 ?_
  refine e_nil ?_
  try refine e_fl ?_
  refine e_draw_tail 5 mixed (by kernel_rfl) (w_op rfl rfl rfl (s_faddr_box rfl (kn rfl) off_78_4) (w_op rfl rfl rfl (s_load1_box rfl (kn rfl) rfl rfl one_38) (w_op rfl rfl rfl (s_loadn_box (ds := [_, _, _, _]) 4 rfl (kn rfl) rfl rfl agg_82 sz_82 rfl) (w_op rfl rfl rfl (s_call rfl (by kernel_rfl) (ofEnum_ef x (f7 x (List.mem_of_getElem? hx))) ⟨(kn rfl), trivial⟩) (w_op rfl rfl rfl (s_buildSlice (ds := [_, _, _, _]) [(0, _)] rfl ⟨rfl, (kn rfl), trivial⟩ rfl sl_38 sz_85 zr_85 (fun w D => .cons (.cell _) (.cons (.cell _) (.cons (.cell _) (.cons (.cell _) (.nil _ _))))) rfl rfl rfl rfl rfl) .nil))))) ?_
  refine e_append rfl rfl rfl rfl (kn rfl) rfl (kn rfl) sl_38 ap_38 rfl rfl (by first | omega | (dsimp only; omega) | omega) (by first | omega | (dsimp only; omega) | omega) ?_
  refine l_op (s_faddr_box rfl (kn rfl) off_78_4) ?_
  refine e_store_own rfl rfl rfl (kn rfl) rfl (kn rfl) rfl rfl sz_38 rfl ?_
  refine e_nil ?_
  try refine e_fl ?_
  refine e_plain (w_op rfl rfl rfl (s_bin rfl (kn rfl) (kn rfl) (v_add64 (by first | omega | (dsimp only; omega) | omega))) (w_mv rfl rfl rfl rfl rfl .nil)) ?_
  try refine e_fl ?_
  refine e_again ⟨k + 1, by omega⟩ (by dsimp only; omega) (fun K => e_sub ⟨s_t, s_t, s_t, s_t, s_t, s_t, trivial⟩ ⟨s_b, s_b, s_b, trivial⟩ ⟨rfl, rfl, rowEq rfl (by simp) (by rw [htk]; simp [List.flatMap_append, dats_md, md, Fld.dats, Fld.cells, Enm.dats, rangeDats]), rfl, trivial⟩)
 obtain rfl : k = (a.enums).length := by have := of_decide_eq_false h; omega
 try refine e_fl ?_
 refine e_freeze_cell 3 1 100 rfl rfl rfl rfl rfl ?_
 refine e_freeze_cell 3 3 102 rfl rfl rfl rfl rfl ?_
 refine e_freeze_cell 3 4 103 rfl rfl rfl rfl rfl ?_
 refine e_freeze_cell 3 5 104 rfl rfl rfl rfl rfl ?_
 dsimp only
 rw [List.take_length, List.take_length, List.take_length, List.take_length]
 refine e_list ?_
 refine l_op (s_loadn_box (ds := [_, _, _, _, _, _, _, _, _]) 9 rfl (kn rfl) rfl rfl agg_78 sz_78 rfl) ?_
 refine e_storew rfl rfl rfl (kn rfl) rfl (kn rfl) rfl rfl sz_78 ?_
 refine e_nil ?_
 try refine e_fl ?_
 exact e_return rfl rfl (.cell rfl rfl rfl agg_78 sz_78 rfl (.nil)) (Imp.of_eq rfl) rfl
theorem ofMessage_ef (a : Msg) (ha : a.fine) : EF Tryz.prog [] 24 [.many (md a)] (.part (.many (md a))) :=
 ofMessage_step a ha fun k hk => ofMessage_ef k (((Msg.fine_iff a).1 ha).2.2.2.2.2.2.2 k hk)
termination_by SizeOf.sizeOf a
decreasing_by exact Msg.mem_lt a k hk
abbrev cfR (a : Fil) (m e : Nat) : RL := [(100, ⟨78, 9, m, (a.msgs.take m).flatMap Msg.dats, false⟩), (101, ⟨85, 4, e, (a.enums.take e).flatMap Enm.dats, false⟩)]
abbrev cfB (a : Fil) : BL := [(1, ⟨26, bcs a.dats⟩), (2, ⟨40, [.is (.string ⟨#[]⟩), .is (.slice none 0 0), .is (.slice none 0 0)]⟩), (3, ⟨40, [.is (.string (str a.package)), .own 100, .own 101]⟩)]
set_option maxRecDepth 100000 in
set_option maxHeartbeats 4000000 in
theorem of_ef (a : Fil) (ha : a.fine) : EF Tryz.prog [] 9 [FQ a] (.part (FQ a)) := by
 refine ef_enter 42 Tryz.func9 rfl rfl rfl fun w D => ?_
 try refine e_fl ?_
 obtain ⟨f1, f2, f3, f4⟩ := ha
 refine e_list ?_
 refine e_box 1 rfl rfl rfl rfl (kn rfl) rfl rfl rfl rfl ?_
 refine e_alloc 2 [.is (.string ⟨#[]⟩), .is (.slice none 0 0), .is (.slice none 0 0)] rfl rfl rfl rfl zr_40 (fun w D M V => ⟨rfl, fun j x v h1 h2 => cfit_is _ h1 h2 rfl⟩) rfl rfl rfl rfl ?_
 refine e_nil ?_
 try refine e_fl ?_
 refine e_list ?_
 refine l_op (s_faddr_box rfl (kn rfl) off_26_0) ?_
 refine l_op (s_load1_box rfl (kn rfl) rfl rfl one_9) ?_
 refine l_op (s_build (ds := [_, _, _]) [(0, _)] rfl ⟨rfl, (kn rfl), trivial⟩ rfl pl_40 zr_40 (fun w D => .cons (.cell _) (.cons (.cell _) (.cons (.cell _) (.nil _ _)))) rfl) ?_
 refine e_alloc 3 [.is (.string ⟨#[]⟩), .is (.slice none 0 0), .is (.slice none 0 0)] rfl rfl rfl rfl zr_40 (fun w D M V => ⟨rfl, fun j x v h1 h2 => cfit_is _ h1 h2 rfl⟩) rfl rfl rfl rfl ?_
 refine e_storew rfl rfl rfl (kn rfl) rfl (kn rfl) rfl rfl sz_40 ?_
 refine e_nil ?_
 try refine e_fl ?_
 refine e_row_cell 3 1 100 78 9 rfl rfl rfl rfl rfl ?_
 refine e_row_cell 3 2 101 85 4 rfl rfl rfl rfl rfl ?_
 refine e_plain (w_op rfl rfl rfl (s_faddr_box rfl (kn rfl) off_26_1) (w_op rfl rfl rfl (s_load1_box rfl (kn rfl) rfl rfl one_23) (w_op rfl rfl rfl (s_len rfl (kn rfl) sle_23) (w_mv rfl rfl rfl rfl rfl .nil)))) ?_
 try refine e_fl ?_
 refine e_loop (ι := { k : Nat // k ≤ (a.msgs).length })
  (fun k => [(1, .box 1 0), (2, .box 2 0), (3, .box 3 0), (12, .part (.one (.row 9 (a.msgs).length ((a.msgs).flatMap Msg.dats)))), (13, .is (.int .i64 ((a.msgs).length : Int))), (14, .is (.int .i64 (k.1 : Int)))])
  (fun _ => cfB a) (fun k => cfR a k.1 0) (fun k => (a.msgs).length - k.1) ⟨0, by omega⟩
  (fun K => e_sub ⟨s_t, s_t, s_t, s_t, s_t, s_t, trivial⟩ ⟨s_b, s_b, s_b, trivial⟩ ⟨rfl, rfl, trivial⟩) ?_
 rintro ⟨k, hk⟩
 dsimp only at hk ⊢
 try refine e_fl ?_
 refine e_plain (w_op rfl rfl rfl (s_bin rfl (kn rfl) (kn rfl) v_lss) .nil) ?_
 try refine e_fl ?_
 refine e_cond rfl (fun h => ?_) (fun h => ?_)
 ·have hlt : k < (a.msgs).length := by have := of_decide_eq_true h; omega
  obtain ⟨x, hx⟩ : ∃ x, (a.msgs)[k]? = some x := ⟨_, List.getElem?_eq_getElem hlt⟩
  have htk : (a.msgs).take (k + 1) = (a.msgs).take k ++ [x] := by rw [List.take_add_one, hx]; rfl
  try refine e_fl ?_
  refine e_list ?_
  refine l_op (s_index rfl (kn rfl) (kn rfl) (by omega) hx Msg.dats_len sle_23 esz_23 (dats_md x)) ?_
  refine l_op (s_loadn_ref rfl (kn rfl) agg_62 sz_62) ?_
  refine e_alloc 5 [.is (.string ⟨#[]⟩), .is (.slice none 0 0), .is (.slice none 0 0), .is (.slice none 0 0), .is (.slice none 0 0), .is (.slice none 0 0), .is (.slice none 0 0), .is (.int .i64 0), .is (.int .i64 0)] rfl rfl rfl rfl zr_62 (fun w D M V => ⟨rfl, fun j x v h1 h2 => cfit_is _ h1 h2 rfl⟩) rfl rfl rfl rfl ?_
  refine e_storew rfl rfl rfl (kn rfl) rfl (kn rfl) rfl rfl sz_62 ?_
  refine e_nil ?_
  try refine e_fl ?_
  refine e_draw_tail 5 mixed (by kernel_rfl) (w_op rfl rfl rfl (s_faddr_box rfl (kn rfl) off_40_1) (w_op rfl rfl rfl (s_load1_box rfl (kn rfl) rfl rfl one_37) (w_op rfl rfl rfl (s_loadn_box (ds := [_, _, _, _, _, _, _, _, _]) 9 rfl (kn rfl) rfl rfl agg_62 sz_62 rfl) (w_op rfl rfl rfl (s_call rfl (by kernel_rfl) (ofMessage_ef x (f4 x (List.mem_of_getElem? hx))) ⟨(kn rfl), trivial⟩) (w_op rfl rfl rfl (s_buildSlice (ds := [_, _, _, _, _, _, _, _, _]) [(0, _)] rfl ⟨rfl, (kn rfl), trivial⟩ rfl sl_37 sz_78 zr_78 (fun w D => .cons (.cell _) (.cons (.cell _) (.cons (.cell _) (.cons (.cell _) (.cons (.cell _) (.cons (.cell _) (.cons (.cell _) (.cons (.cell _) (.cons (.cell _) (.nil _ _)))))))))) rfl rfl rfl rfl rfl) .nil))))) ?_
  refine e_append rfl rfl rfl rfl (kn rfl) rfl (kn rfl) sl_37 ap_37 rfl rfl (by first | omega | (dsimp only; omega) | omega) (by first | omega | (dsimp only; omega) | omega) ?_
  refine l_op (s_faddr_box rfl (kn rfl) off_40_1) ?_
  refine e_store_own rfl rfl rfl (kn rfl) rfl (kn rfl) rfl rfl sz_37 rfl ?_
  refine e_nil ?_
  try refine e_fl ?_
  refine e_plain (w_op rfl rfl rfl (s_bin rfl (kn rfl) (kn rfl) (v_add64 (by first | omega | (dsimp only; omega) | omega))) (w_mv rfl rfl rfl rfl rfl .nil)) ?_
  try refine e_fl ?_
  refine e_again ⟨k + 1, by omega⟩ (by dsimp only; omega) (fun K => e_sub ⟨s_t, s_t, s_t, s_t, s_t, s_t, trivial⟩ ⟨s_b, s_b, s_b, trivial⟩ ⟨rowEq rfl (by simp) (by rw [htk]; simp [List.flatMap_append, dats_md, md, Enm.dats]), rfl, trivial⟩)
 obtain rfl : k = (a.msgs).length := by have := of_decide_eq_false h; omega
 try refine e_fl ?_
 refine e_plain (w_op rfl rfl rfl (s_faddr_box rfl (kn rfl) off_26_2) (w_op rfl rfl rfl (s_load1_box rfl (kn rfl) rfl rfl one_24) (w_op rfl rfl rfl (s_len rfl (kn rfl) sle_24) (w_mv rfl rfl rfl rfl rfl .nil)))) ?_
 try refine e_fl ?_
 refine e_loop (ι := { k : Nat // k ≤ (a.enums).length })
  (fun k => [(1, .box 1 0), (2, .box 2 0), (3, .box 3 0), (27, .part (.one (.row 4 (a.enums).length ((a.enums).flatMap Enm.dats)))), (28, .is (.int .i64 ((a.enums).length : Int))), (29, .is (.int .i64 (k.1 : Int)))])
  (fun _ => cfB a) (fun k => cfR a a.msgs.length k.1) (fun k => (a.enums).length - k.1) ⟨0, by omega⟩
  (fun K => e_sub ⟨s_t, s_t, s_t, s_t, s_t, s_t, trivial⟩ ⟨s_b, s_b, s_b, trivial⟩ ⟨rfl, rfl, trivial⟩) ?_
 rintro ⟨k, hk⟩
 dsimp only at hk ⊢
 try refine e_fl ?_
 refine e_plain (w_op rfl rfl rfl (s_bin rfl (kn rfl) (kn rfl) v_lss) .nil) ?_
 try refine e_fl ?_
 refine e_cond rfl (fun h => ?_) (fun h => ?_)
 ·have hlt : k < (a.enums).length := by have := of_decide_eq_true h; omega
  obtain ⟨x, hx⟩ : ∃ x, (a.enums)[k]? = some x := ⟨_, List.getElem?_eq_getElem hlt⟩
  have htk : (a.enums).take (k + 1) = (a.enums).take k ++ [x] := by rw [List.take_add_one, hx]; rfl
  try refine e_fl ?_
  refine e_list ?_
  refine l_op (s_index rfl (kn rfl) (kn rfl) (by omega) hx Enm.dats_len sle_24 esz_24 rfl) ?_
  refine l_op (s_loadn_ref rfl (kn rfl) agg_82 sz_82) ?_
  refine e_alloc 7 [.is (.string ⟨#[]⟩), .is (.slice none 0 0), .is (.int .i64 0), .is (.int .i64 0)] rfl rfl rfl rfl zr_82 (fun w D M V => ⟨rfl, fun j x v h1 h2 => cfit_is _ h1 h2 rfl⟩) rfl rfl rfl rfl ?_
  refine e_storew rfl rfl rfl (kn rfl) rfl (kn rfl) rfl rfl sz_82 ?_
  refine e_nil ?_
  try refine e_fl ?_
  refine e_draw_tail 5 mixed (by kernel_rfl) (w_op rfl rfl rfl (s_faddr_box rfl (kn rfl) off_40_2) (w_op rfl rfl rfl (s_load1_box rfl (kn rfl) rfl rfl one_38) (w_op rfl rfl rfl (s_loadn_box (ds := [_, _, _, _]) 4 rfl (kn rfl) rfl rfl agg_82 sz_82 rfl) (w_op rfl rfl rfl (s_call rfl (by kernel_rfl) (ofEnum_ef x (f3 x (List.mem_of_getElem? hx))) ⟨(kn rfl), trivial⟩) (w_op rfl rfl rfl (s_buildSlice (ds := [_, _, _, _]) [(0, _)] rfl ⟨rfl, (kn rfl), trivial⟩ rfl sl_38 sz_85 zr_85 (fun w D => .cons (.cell _) (.cons (.cell _) (.cons (.cell _) (.cons (.cell _) (.nil _ _))))) rfl rfl rfl rfl rfl) .nil))))) ?_
  refine e_append rfl rfl rfl rfl (kn rfl) rfl (kn rfl) sl_38 ap_38 rfl rfl (by first | omega | (dsimp only; omega) | omega) (by first | omega | (dsimp only; omega) | omega) ?_
  refine l_op (s_faddr_box rfl (kn rfl) off_40_2) ?_
  refine e_store_own rfl rfl rfl (kn rfl) rfl (kn rfl) rfl rfl sz_38 rfl ?_
  refine e_nil ?_
  try refine e_fl ?_
  refine e_plain (w_op rfl rfl rfl (s_bin rfl (kn rfl) (kn rfl) (v_add64 (by first | omega | (dsimp only; omega) | omega))) (w_mv rfl rfl rfl rfl rfl .nil)) ?_
  try refine e_fl ?_
  refine e_again ⟨k + 1, by omega⟩ (by dsimp only; omega) (fun K => e_sub ⟨s_t, s_t, s_t, s_t, s_t, s_t, trivial⟩ ⟨s_b, s_b, s_b, trivial⟩ ⟨rfl, rowEq rfl (by simp) (by rw [htk]; simp [List.flatMap_append, dats_md, md, Enm.dats]), trivial⟩)
 obtain rfl : k = (a.enums).length := by have := of_decide_eq_false h; omega
 try refine e_fl ?_
 refine e_freeze_cell 3 1 100 rfl rfl rfl rfl rfl ?_
 refine e_freeze_cell 3 2 101 rfl rfl rfl rfl rfl ?_
 dsimp only
 rw [List.take_length, List.take_length]
 refine e_list ?_
 refine l_op (s_loadn_box (ds := [_, _, _]) 3 rfl (kn rfl) rfl rfl agg_40 sz_40 rfl) ?_
 refine e_storew rfl rfl rfl (kn rfl) rfl (kn rfl) rfl rfl sz_40 ?_
 refine e_nil ?_
 try refine e_fl ?_
 exact e_return rfl rfl (.cell rfl rfl rfl agg_40 sz_40 rfl (.nil)) (Imp.of_eq rfl) rfl
end Go.Proofs.YtekeanikgcpijaaGreatDoor
namespace Go.Proofs.YtekeanikgcpijaaGreatDoor
open Go.RowKit
abbrev E8A (A : Nat → Addr) : Er := (tE, .pointer (some (A 7)))
abbrev E9A (A : Nat → Addr) : Er := (tE, .pointer (some (A 8)))
abbrev An := Fil × Nat × Nat × Nat
def sAns (s : List UInt8) (T : List (Tok × Nat)) (b ea : Nat) : An := if b = 0 then sParse (tksOf s T) else (fil0, b, (placeAt s ea).1, (placeAt s ea).2)
def progY (A : Nat → Addr) (x : An) : IV := .tup [FQ x.1, if x.2.1 = 0 then nilP else fltR A x.2.2.1 x.2.2.2 x.2.1]
structure OfG (gls : List (Nat × List Value)) (A : Nat → Addr) (m : Int) : Prop where
 lx : LxG gls A m
 sub : ∀ x, x ∈ gE (E8A A) (E9A A) → x ∈ gls
theorem sParse_err {l : List Tk} {a c : Nat} (h : sFile l = .error (a, c)) : sParse l = (fil0, c, (tkAt l a).2.1, (tkAt l a).2.2) ∧ (c = 8 ∨ c = 9) := by
 refine ⟨?_, sFile_e l _ h⟩
 unfold sParse
 rw [h]
 unfold placeOf
 dsimp only
 split
 ·rfl
 ·rename_i hn
  have : tkAt l a = tk0 := by
   unfold tkAt
   rw [List.getD_eq_getElem?_getD, List.getElem?_eq_none (by omega)]
   rfl
  rw [this]
  rfl
theorem sParse_fil {l : List Tk} {f : Fil} (h : sFile l = .ok f) : sParse l = (f, 0, 0, 0) := by
 unfold sParse
 rw [h]
set_option maxRecDepth 100000 in
theorem of_y {gls : List (Nat × List Value)} {A : Nat → Addr} {m : Int} (hg : OfG gls A m) (s : List UInt8) (hs : s.length ≤ 4000) (T : List (Tok × Nat)) (b ea : Nat) (hT : Lex s 0 T b ea) : EF Tryz.prog gls 6 [sP s] (progY A (sAns s T b ea)) := by
 refine ef_enter 19 Tryz.func6 rfl rfl rfl fun w D => ?_
 try refine e_fl ?_
 refine e_list ?_
 refine e_alloc 2 [.is (.string ⟨#[]⟩), .is (.slice none 0 0), .is (.slice none 0 0)] rfl rfl rfl rfl zr_26 (fun w D M V => ⟨rfl, fun j x v h1 h2 => cfit_is _ h1 h2 rfl⟩) rfl rfl rfl rfl ?_
 refine l_as ?_
 refine e_nil ?_
 try refine e_fl ?_
 refine e_list ?_
 refine l_mv ?_
 refine e_list_call rfl rfl rfl rfl (by kernel_rfl) (split_y hg.lx s hs T b ea hT) ⟨(kn rfl), trivial⟩ ?_
 rintro _ (⟨h0, rfl⟩ | ⟨h0, rfl⟩)
 ·have ha : sAns s T b ea = sParse (tksOf s T) := if_pos h0
  refine l_mv ?_
  refine l_ex ?_
  refine l_ex ?_
  refine l_as ?_
  refine l_as ?_
  refine e_nil ?_
  try refine e_fl ?_
  refine e_plain (w_mv rfl rfl rfl rfl rfl (w_op rfl rfl rfl (s_nil_neq rfl (kn rfl) ifc_28) .nil)) ?_
  try refine e_fl ?_
  refine c_no ?_
  try refine e_fl ?_
  refine e_list ?_
  refine l_mv ?_
  refine e_list_call rfl rfl rfl rfl (by kernel_rfl) ((par_y (E8A A) (E9A A) (tksOf s T) (tksOf_ok hs hT)).more hg.sub) ⟨(kn rfl), trivial⟩ ?_
  rintro _ (⟨a, c, he, rfl⟩ | ⟨f, ho, rfl⟩)
  ·obtain ⟨hp, hc⟩ := sParse_err he
   refine l_ex ?_
   refine l_ex ?_
   refine e_storew rfl rfl rfl (kn rfl) rfl (kn rfl) rfl rfl sz_26 ?_
   refine l_as ?_
   refine e_nil ?_
   try refine e_fl ?_
   exact e_return rfl rfl (.cell rfl rfl rfl agg_26 sz_26 rfl (.tmp (kn rfl) (.nil))) (file_imp (f := fil0) rfl (DImp.nil 9) (DImp.nil 4)) (by rw [ha, hp]; rcases hc with rfl | rfl <;> rfl)
  ·refine l_ex ?_
   refine l_ex ?_
   refine e_storew rfl rfl rfl (kn rfl) rfl (kn rfl) rfl rfl sz_26 ?_
   refine l_as ?_
   refine e_nil ?_
   try refine e_fl ?_
   exact e_return rfl rfl (.cell rfl rfl rfl agg_26 sz_26 rfl (.tmp (kn rfl) (.nil))) (Imp.refl _) (by rw [ha, sParse_fil ho]; rfl)
 ·have ha : sAns s T b ea = (fil0, b, (placeAt s ea).1, (placeAt s ea).2) := if_neg h0
  refine l_mv ?_
  refine l_ex ?_
  refine l_ex ?_
  refine l_as ?_
  refine l_as ?_
  refine e_nil ?_
  try refine e_fl ?_
  refine e_plain (w_mv rfl rfl rfl rfl rfl (w_op rfl rfl rfl (s_err_neq rfl (kn rfl) rfl ifc_28) .nil)) ?_
  try refine e_fl ?_
  refine c_yes ?_
  try refine e_fl ?_
  refine e_list ?_
  refine l_op (s_build (ds := [_, _, _]) [] rfl trivial rfl pl_26 zr_26 (fun w D => .cons (.cell _) (.cons (.cell _) (.cons (.cell _) (.nil _ _)))) rfl) ?_
  refine l_mv ?_
  refine e_storew rfl rfl rfl (kn rfl) rfl (kn rfl) rfl rfl sz_26 ?_
  refine l_as ?_
  refine e_nil ?_
  try refine e_fl ?_
  exact e_return rfl rfl (.cell rfl rfl rfl agg_26 sz_26 rfl (.tmp (kn rfl) (.nil))) (file_imp (f := fil0) rfl (DImp.nil 9) (DImp.nil 4)) (by rw [ha]; simp only [progY, if_neg h0])
set_option maxRecDepth 100000 in
theorem of_l {gls : List (Nat × List Value)} {A : Nat → Addr} {m : Int} (hg : OfG gls A m) (s : List UInt8) (hs : 4000 < s.length) : EF Tryz.prog gls 6 [sP s] (progY A (fil0, 3, 0, 0)) := by
 refine ef_enter 19 Tryz.func6 rfl rfl rfl fun w D => ?_
 try refine e_fl ?_
 refine e_list ?_
 refine e_alloc 2 [.is (.string ⟨#[]⟩), .is (.slice none 0 0), .is (.slice none 0 0)] rfl rfl rfl rfl zr_26 (fun w D M V => ⟨rfl, fun j x v h1 h2 => cfit_is _ h1 h2 rfl⟩) rfl rfl rfl rfl ?_
 refine l_as ?_
 refine e_nil ?_
 try refine e_fl ?_
 refine e_plain (w_mv rfl rfl rfl rfl rfl (w_op rfl rfl rfl (s_call rfl (by kernel_rfl) (split_l hg.lx s hs) ⟨(kn rfl), trivial⟩) (w_mv rfl rfl rfl rfl rfl (w_op rfl rfl rfl (s_extract rfl (kn rfl) rfl) (w_op rfl rfl rfl (s_extract rfl (kn rfl) rfl) (w_as rfl rfl rfl rfl rfl (w_as rfl rfl rfl rfl rfl .nil))))))) ?_
 try refine e_fl ?_
 refine e_plain (w_mv rfl rfl rfl rfl rfl (w_op rfl rfl rfl (s_err_neq rfl (kn rfl) rfl ifc_28) .nil)) ?_
 try refine e_fl ?_
 refine c_yes ?_
 try refine e_fl ?_
 refine e_list ?_
 refine l_op (s_build (ds := [_, _, _]) [] rfl trivial rfl pl_26 zr_26 (fun w D => .cons (.cell _) (.cons (.cell _) (.cons (.cell _) (.nil _ _)))) rfl) ?_
 refine l_mv ?_
 refine e_storew rfl rfl rfl (kn rfl) rfl (kn rfl) rfl rfl sz_26 ?_
 refine l_as ?_
 refine e_nil ?_
 try refine e_fl ?_
 exact e_return rfl rfl (.cell rfl rfl rfl agg_26 sz_26 rfl (.tmp (kn rfl) (.nil))) (file_imp (f := fil0) rfl (DImp.nil 9) (DImp.nil 4)) (rfl)
end Go.Proofs.YtekeanikgcpijaaGreatDoor
namespace Go.Proofs.YtekeanikgcpijaaGreatDoor
open Go.RowKit
theorem sFile_fine {l : List Tk} (hl : l.length ≤ 100000) {f : Fil} (h : sFile l = .ok f) : f.fine := by
 rw [sFile_syn] at h
 split at h
 ·cases h
 rename_i q hq
 have hq := sSyn_le hq
 split at h
 ·cases h
 rename_i pk u hpk
 refine sParts_fine hl _ _ u ⟨Nat.zero_le _, Nat.zero_le _, fun x hx => (by cases hx), fun x hx => (by cases hx)⟩ (Nat.zero_le _) (Nat.zero_le _) ?_ h
 unfold sPackage at hpk
 split at hpk
 ·split at hpk
  ·cases hpk
  rename_i hd
  have := sDotted_ok hd
  split at hpk
  ·cases hpk
  rename_i hw
  have := sWant_ok hw
  injection hpk with hpk
  injection hpk with h1 h2
  subst h2
  omega
 ·injection hpk with hpk
  injection hpk with h1 h2
  subst h2
  exact hq
abbrev glA (A : Nat → Addr) (m : Int) : List (Nat × List Value) := [(3, [errV A 0]), (0, [errV A 2]), (9, [errV A 7]), (10, [errV A 8]), (20, [.int .i64 m])]
theorem glA_of (A : Nat → Addr) (m : Int) : OfG (glA A m) A m := ⟨⟨by simp [glA], by simp [glA], by simp [glA], by simp [glA]⟩, fun x hx => by
 rcases List.mem_cons.1 hx with rfl | hx
 ·simp [glA]
 ·rcases List.mem_cons.1 hx with rfl | hx
  ·simp [glA]
  ·cases hx⟩
end Go.Proofs.YtekeanikgcpijaaGreatDoor
