/- Part 31 of what the last text of this claim is proved by: walks over the program, and the math behind them. Conditions: as each theorem says. -/
import Derived.Test.YtfcjeciepadmeaaGreatDoorGx30
import Derived.Test.YtfcjeciepadmeaaGreatDoorProg
namespace Go.Proofs.YtfcjeciepadmeaaGreatDoor
open Go.RowKit
set_option maxRecDepth 100000 in
theorem flatEnum_ef (a : Enm) (ha : a.fine) : EF Tryz.prog [] 29 [.many a.dats] (.part (.many (flatEnm a).dats)) := by
 refine ef_enter 26 Tryz.func29 rfl rfl rfl fun w D => ?_
 try refine e_fl ?_
 unfold Enm.fine at ha
 refine e_list ?_
 refine e_box 1 rfl rfl rfl rfl (kn rfl) rfl rfl rfl rfl ?_
 refine e_alloc 2 [.is (.string ⟨#[]⟩), .is (.slice none 0 0), .is (.int .i64 0), .is (.int .i64 0)] rfl rfl rfl rfl zr_72 (fun w D M V => ⟨rfl, fun j x v h1 h2 => cfit_is _ h1 h2 rfl⟩) rfl rfl rfl rfl ?_
 refine e_nil ?_
 try refine e_fl ?_
 refine e_list ?_
 refine l_op (s_faddr_box rfl (kn rfl) off_72_0) ?_
 refine l_op (s_load1_box rfl (kn rfl) rfl rfl one_9) ?_
 refine l_op (s_build (ds := [_, _, _, _]) [(0, _)] rfl ⟨rfl, (kn rfl), trivial⟩ rfl pl_72 zr_72 (fun w D => .cons (.cell _) (.cons (.cell _) (.cons (.cell _) (.cons (.cell _) (.nil _ _))))) rfl) ?_
 refine e_alloc 3 [.is (.string ⟨#[]⟩), .is (.slice none 0 0), .is (.int .i64 0), .is (.int .i64 0)] rfl rfl rfl rfl zr_72 (fun w D M V => ⟨rfl, fun j x v h1 h2 => cfit_is _ h1 h2 rfl⟩) rfl rfl rfl rfl ?_
 refine e_storew rfl rfl rfl (kn rfl) rfl (kn rfl) rfl rfl sz_72 ?_
 refine e_nil ?_
 try refine e_fl ?_
 refine e_row_cell 3 1 100 116 4 rfl rfl rfl rfl rfl ?_
 refine e_plain (w_op rfl rfl rfl (s_faddr_box rfl (kn rfl) off_72_1) (w_op rfl rfl rfl (s_load1_box rfl (kn rfl) rfl rfl one_70) (w_op rfl rfl rfl (s_len rfl (kn rfl) sle_70) (w_mv rfl rfl rfl rfl rfl .nil)))) ?_
 try refine e_fl ?_
 refine e_loop (ι := { k : Nat // k ≤ (a.vals).length })
  (fun k => [(1, .box 1 0), (2, .box 2 0), (3, .box 3 0), (10, .part (.one (.row 4 (a.vals).length ((a.vals).flatMap Val.dats)))), (11, .is (.int .i64 ((a.vals).length : Int))), (12, .is (.int .i64 (k.1 : Int)))])
  (fun _ => [(1, ⟨72, bcs a.dats⟩), (2, ⟨72, [.is (.string ⟨#[]⟩), .is (.slice none 0 0), .is (.int .i64 0), .is (.int .i64 0)]⟩), (3, ⟨72, [.is (.string (str a.name)), .own 100, .is (.int .i64 0), .is (.int .i64 0)]⟩)]) (fun k => [(100, ⟨116, 4, k.1, ((a.vals.take k.1).map flatVal).flatMap Val.dats, false⟩)]) (fun k => (a.vals).length - k.1) ⟨0, by omega⟩
  (fun K => e_sub ⟨s_t, s_t, s_t, s_t, s_t, s_t, trivial⟩ ⟨s_b, s_b, s_b, trivial⟩ ⟨rfl, trivial⟩) ?_
 rintro ⟨k, hk⟩
 dsimp only at hk ⊢
 try refine e_fl ?_
 refine e_plain (w_op rfl rfl rfl (s_bin rfl (kn rfl) (kn rfl) v_lss) .nil) ?_
 try refine e_fl ?_
 refine e_cond rfl (fun h => ?_) (fun h => ?_)
 ·have hlt : k < (a.vals).length := by have := of_decide_eq_true h; omega
  obtain ⟨x, hx⟩ : ∃ x, (a.vals)[k]? = some x := ⟨_, List.getElem?_eq_getElem hlt⟩
  have htk : (a.vals).take (k + 1) = (a.vals).take k ++ [x] := by rw [List.take_add_one, hx]; rfl
  try refine e_fl ?_
  refine e_list ?_
  refine l_op (s_index rfl (kn rfl) (kn rfl) (by omega) hx Val.dats_len sle_70 esz_70 rfl) ?_
  refine l_op (s_loadn_ref rfl (kn rfl) agg_116 sz_116) ?_
  refine e_alloc 5 [.is (.string ⟨#[]⟩), .is (.int .i64 0), .is (.int .i64 0), .is (.int .i64 0)] rfl rfl rfl rfl zr_116 (fun w D M V => ⟨rfl, fun j x v h1 h2 => cfit_is _ h1 h2 rfl⟩) rfl rfl rfl rfl ?_
  refine e_storew rfl rfl rfl (kn rfl) rfl (kn rfl) rfl rfl sz_116 ?_
  refine e_nil ?_
  try refine e_fl ?_
  refine e_list ?_
  refine l_op (s_faddr_box rfl (kn rfl) off_116_2) ?_
  refine e_store1 rfl rfl rfl (kn rfl) rfl (kn rfl) rfl rfl sz_3 rfl ?_
  refine l_op (s_faddr_box rfl (kn rfl) off_116_3) ?_
  refine e_store1 rfl rfl rfl (kn rfl) rfl (kn rfl) rfl rfl sz_3 rfl ?_
  refine e_nil ?_
  try refine e_fl ?_
  refine e_list ?_
  refine l_op (s_faddr_box rfl (kn rfl) off_72_1) ?_
  refine l_op (s_load1_box rfl (kn rfl) rfl rfl one_70) ?_
  refine l_op (s_loadn_box (ds := [_, _, _, _]) 4 rfl (kn rfl) rfl rfl agg_116 sz_116 rfl) ?_
  refine l_op (s_buildSlice (ds := [_, _, _, _]) [(0, _)] rfl ⟨rfl, (kn rfl), trivial⟩ rfl sl_70 sz_116 zr_116 (fun w D => .cons (.cell _) (.cons (.cell _) (.cons (.cell _) (.cons (.cell _) (.nil _ _))))) rfl rfl rfl rfl rfl) ?_
  refine e_append rfl rfl rfl rfl (kn rfl) rfl (kn rfl) sl_70 ap_70 rfl rfl (by first | omega | (dsimp only; omega) | omega) (by first | omega | (dsimp only; omega) | omega) ?_
  refine l_op (s_faddr_box rfl (kn rfl) off_72_1) ?_
  refine e_store_own rfl rfl rfl (kn rfl) rfl (kn rfl) rfl rfl sz_70 rfl ?_
  refine e_nil ?_
  try refine e_fl ?_
  refine e_plain (w_op rfl rfl rfl (s_bin rfl (kn rfl) (kn rfl) (v_add64 (by first | omega | (dsimp only; omega) | omega))) (w_mv rfl rfl rfl rfl rfl .nil)) ?_
  try refine e_fl ?_
  refine e_again ⟨k + 1, by omega⟩ (by dsimp only; omega) (fun K => e_sub ⟨s_t, s_t, s_t, s_t, s_t, s_t, trivial⟩ ⟨s_b, s_b, s_b, trivial⟩ ⟨rowEq rfl (by simp) (by rw [htk]; simp [List.flatMap_append, Val.dats, Val.cells, flatVal]), trivial⟩)
 obtain rfl : k = (a.vals).length := by have := of_decide_eq_false h; omega
 try refine e_fl ?_
 refine e_freeze_cell 3 1 100 rfl rfl rfl rfl rfl ?_
 rw [List.take_length]
 refine e_list ?_
 refine l_op (s_loadn_box (ds := [_, _, _, _]) 4 rfl (kn rfl) rfl rfl agg_72 sz_72 rfl) ?_
 refine e_storew rfl rfl rfl (kn rfl) rfl (kn rfl) rfl rfl sz_72 ?_
 refine e_nil ?_
 try refine e_fl ?_
 exact e_return rfl rfl (.cell rfl rfl rfl agg_72 sz_72 rfl (.nil)) (Imp.of_eq (by simp [Enm.dats, flatEnm]; rfl)) rfl
abbrev gR (a : Msg) (f m e : Nat) : RL := [(100, ⟨112, 10, f, ((a.fields.take f).map flatFld).flatMap Fld.dats, false⟩), (102, ⟨68, 9, m, ((a.msgs.take m).map flatMsg).flatMap Msg.dats, false⟩), (103, ⟨72, 4, e, ((a.enums.take e).map flatEnm).flatMap Enm.dats, false⟩)]
abbrev gB (a : Msg) : BL := [(1, ⟨68, bcs (md a)⟩), (2, ⟨68, [.is (.string ⟨#[]⟩), .is (.slice none 0 0), .is (.slice none 0 0), .is (.slice none 0 0), .is (.slice none 0 0), .is (.slice none 0 0), .is (.slice none 0 0), .is (.int .i64 0), .is (.int .i64 0)]⟩), (3, ⟨68, [.is (.string (str a.name)), .own 100, .part (txsP a.oneofs), .own 102, .own 103, .part (.one (.row 2 a.reserved.length (a.reserved.flatMap rangeDats))), .part (txsP a.names), .is (.int .i64 0), .is (.int .i64 0)]⟩)]
theorem md_flat (a : Msg) : md (flatMsg a) = [.cell (.string (str a.name)), .row 10 a.fields.length ((a.fields.map flatFld).flatMap Fld.dats), .row 1 a.oneofs.length (a.oneofs.flatMap textDats), .row 9 a.msgs.length ((a.msgs.map flatMsg).flatMap Msg.dats), .row 4 a.enums.length ((a.enums.map flatEnm).flatMap Enm.dats), .row 2 a.reserved.length (a.reserved.flatMap rangeDats), .row 1 a.names.length (a.names.flatMap textDats), .cell (.int .i64 0), .cell (.int .i64 0)] := by
 rw [← dats_md]
 cases a
 rw [flatMsg_mk, Msg.dats_mk, List.length_map, List.length_map, List.length_map]
 rfl
set_option maxRecDepth 100000 in
set_option maxHeartbeats 4000000 in
theorem flatMessage_step (a : Msg) (ha : a.fine) (ih : ∀ k ∈ a.msgs, EF Tryz.prog [] 28 [.many (md k)] (.part (.many (md (flatMsg k))))) : EF Tryz.prog [] 28 [.many (md a)] (.part (.many (md (flatMsg a)))) := by
 refine ef_enter 66 Tryz.func28 rfl rfl rfl fun w D => ?_
 try refine e_fl ?_
 obtain ⟨f1, f2, f3, f4, f5, f6, f7, f8⟩ := (Msg.fine_iff a).1 ha
 refine e_list ?_
 refine e_box 1 rfl rfl rfl rfl (kn rfl) rfl rfl rfl rfl ?_
 refine e_alloc 2 [.is (.string ⟨#[]⟩), .is (.slice none 0 0), .is (.slice none 0 0), .is (.slice none 0 0), .is (.slice none 0 0), .is (.slice none 0 0), .is (.slice none 0 0), .is (.int .i64 0), .is (.int .i64 0)] rfl rfl rfl rfl zr_68 (fun w D M V => ⟨rfl, fun j x v h1 h2 => cfit_is _ h1 h2 rfl⟩) rfl rfl rfl rfl ?_
 refine e_nil ?_
 try refine e_fl ?_
 refine e_list ?_
 refine l_op (s_faddr_box rfl (kn rfl) off_68_0) ?_
 refine l_op (s_load1_box rfl (kn rfl) rfl rfl one_9) ?_
 refine l_op (s_faddr_box rfl (kn rfl) off_68_2) ?_
 refine l_op (s_load1_box rfl (kn rfl) rfl rfl one_49) ?_
 refine l_op (s_faddr_box rfl (kn rfl) off_68_5) ?_
 refine l_op (s_load1_box rfl (kn rfl) rfl rfl one_66) ?_
 refine l_op (s_faddr_box rfl (kn rfl) off_68_6) ?_
 refine l_op (s_load1_box rfl (kn rfl) rfl rfl one_49) ?_
 refine l_op (s_build (ds := [_, _, _, _, _, _, _, _, _]) [(0, _), (2, _), (5, _), (6, _)] rfl ⟨rfl, (kn rfl), ⟨rfl, (kn rfl), ⟨rfl, (kn rfl), ⟨rfl, (kn rfl), trivial⟩⟩⟩⟩ rfl pl_68 zr_68 (fun w D => .cons (.cell _) (.cons (.cell _) (.cons (.cell _) (.cons (.cell _) (.cons (.cell _) (.cons (.cell _) (.cons (.cell _) (.cons (.cell _) (.cons (.cell _) (.nil _ _)))))))))) rfl) ?_
 refine e_alloc 3 [.is (.string ⟨#[]⟩), .is (.slice none 0 0), .is (.slice none 0 0), .is (.slice none 0 0), .is (.slice none 0 0), .is (.slice none 0 0), .is (.slice none 0 0), .is (.int .i64 0), .is (.int .i64 0)] rfl rfl rfl rfl zr_68 (fun w D M V => ⟨rfl, fun j x v h1 h2 => cfit_is _ h1 h2 rfl⟩) rfl rfl rfl rfl ?_
 refine e_storew rfl rfl rfl (kn rfl) rfl (kn rfl) rfl rfl sz_68 ?_
 refine e_nil ?_
 try refine e_fl ?_
 refine e_row_cell 3 1 100 112 10 rfl rfl rfl rfl rfl ?_
 refine e_row_cell 3 3 102 68 9 rfl rfl rfl rfl rfl ?_
 refine e_row_cell 3 4 103 72 4 rfl rfl rfl rfl rfl ?_
 refine e_plain (w_op rfl rfl rfl (s_faddr_box rfl (kn rfl) off_68_1) (w_op rfl rfl rfl (s_load1_box rfl (kn rfl) rfl rfl one_65) (w_op rfl rfl rfl (s_len rfl (kn rfl) sle_65) (w_mv rfl rfl rfl rfl rfl .nil)))) ?_
 try refine e_fl ?_
 refine e_loop (ι := { k : Nat // k ≤ (a.fields).length })
  (fun k => [(1, .box 1 0), (2, .box 2 0), (3, .box 3 0), (20, .part (.one (.row 10 (a.fields).length ((a.fields).flatMap Fld.dats)))), (21, .is (.int .i64 ((a.fields).length : Int))), (22, .is (.int .i64 (k.1 : Int)))])
  (fun _ => gB a) (fun k => gR a k.1 0 0) (fun k => (a.fields).length - k.1) ⟨0, by omega⟩
  (fun K => e_sub ⟨s_t, s_t, s_t, s_t, s_t, s_t, trivial⟩ ⟨s_b, s_b, s_b, trivial⟩ ⟨rfl, rfl, rfl, trivial⟩) ?_
 rintro ⟨k, hk⟩
 dsimp only at hk ⊢
 try refine e_fl ?_
 refine e_plain (w_op rfl rfl rfl (s_bin rfl (kn rfl) (kn rfl) v_lss) .nil) ?_
 try refine e_fl ?_
 refine e_cond rfl (fun h => ?_) (fun h => ?_)
 ·have hlt : k < (a.fields).length := by have := of_decide_eq_true h; omega
  obtain ⟨x, hx⟩ : ∃ x, (a.fields)[k]? = some x := ⟨_, List.getElem?_eq_getElem hlt⟩
  have htk : (a.fields).take (k + 1) = (a.fields).take k ++ [x] := by rw [List.take_add_one, hx]; rfl
  try refine e_fl ?_
  refine e_list ?_
  refine l_op (s_index rfl (kn rfl) (kn rfl) (by omega) hx Fld.dats_len sle_65 esz_65 rfl) ?_
  refine l_op (s_loadn_ref rfl (kn rfl) agg_112 sz_112) ?_
  refine e_alloc 5 [.is (.string ⟨#[]⟩), .is (.string ⟨#[]⟩), .is (.string ⟨#[]⟩), .is (.string ⟨#[]⟩), .is (.int .i64 0), .is (.int .i64 0), .is (.int .i64 0), .is (.int .i64 0), .is (.int .i64 0), .is (.int .i64 0)] rfl rfl rfl rfl zr_112 (fun w D M V => ⟨rfl, fun j x v h1 h2 => cfit_is _ h1 h2 rfl⟩) rfl rfl rfl rfl ?_
  refine e_storew rfl rfl rfl (kn rfl) rfl (kn rfl) rfl rfl sz_112 ?_
  refine e_nil ?_
  try refine e_fl ?_
  refine e_list ?_
  refine l_op (s_faddr_box rfl (kn rfl) off_112_8) ?_
  refine e_store1 rfl rfl rfl (kn rfl) rfl (kn rfl) rfl rfl sz_3 rfl ?_
  refine l_op (s_faddr_box rfl (kn rfl) off_112_9) ?_
  refine e_store1 rfl rfl rfl (kn rfl) rfl (kn rfl) rfl rfl sz_3 rfl ?_
  refine e_nil ?_
  try refine e_fl ?_
  refine e_list ?_
  refine l_op (s_faddr_box rfl (kn rfl) off_68_1) ?_
  refine l_op (s_load1_box rfl (kn rfl) rfl rfl one_65) ?_
  refine l_op (s_loadn_box (ds := [_, _, _, _, _, _, _, _, _, _]) 10 rfl (kn rfl) rfl rfl agg_112 sz_112 rfl) ?_
  refine l_op (s_buildSlice (ds := [_, _, _, _, _, _, _, _, _, _]) [(0, _)] rfl ⟨rfl, (kn rfl), trivial⟩ rfl sl_65 sz_112 zr_112 (fun w D => .cons (.cell _) (.cons (.cell _) (.cons (.cell _) (.cons (.cell _) (.cons (.cell _) (.cons (.cell _) (.cons (.cell _) (.cons (.cell _) (.cons (.cell _) (.cons (.cell _) (.nil _ _))))))))))) rfl rfl rfl rfl rfl) ?_
  refine e_append rfl rfl rfl rfl (kn rfl) rfl (kn rfl) sl_65 ap_65 rfl rfl (by first | omega | (dsimp only; omega) | omega) (by first | omega | (dsimp only; omega) | omega) ?_
  refine l_op (s_faddr_box rfl (kn rfl) off_68_1) ?_
  refine e_store_own rfl rfl rfl (kn rfl) rfl (kn rfl) rfl rfl sz_65 rfl ?_
  refine e_nil ?_
  try refine e_fl ?_
  refine e_plain (w_op rfl rfl rfl (s_bin rfl (kn rfl) (kn rfl) (v_add64 (by first | omega | (dsimp only; omega) | omega))) (w_mv rfl rfl rfl rfl rfl .nil)) ?_
  try refine e_fl ?_
  refine e_again ⟨k + 1, by omega⟩ (by dsimp only; omega) (fun K => e_sub ⟨s_t, s_t, s_t, s_t, s_t, s_t, trivial⟩ ⟨s_b, s_b, s_b, trivial⟩ ⟨rowEq rfl (by simp) (by rw [htk]; simp [List.flatMap_append, Fld.dats, Fld.cells, flatFld]), rfl, rfl, trivial⟩)
 obtain rfl : k = (a.fields).length := by have := of_decide_eq_false h; omega
 try refine e_fl ?_
 refine e_plain (w_op rfl rfl rfl (s_faddr_box rfl (kn rfl) off_68_3) (w_op rfl rfl rfl (s_load1_box rfl (kn rfl) rfl rfl one_31) (w_op rfl rfl rfl (s_len rfl (kn rfl) sle_31) (w_mv rfl rfl rfl rfl rfl .nil)))) ?_
 try refine e_fl ?_
 refine e_loop (ι := { k : Nat // k ≤ (a.msgs).length })
  (fun k => [(1, .box 1 0), (2, .box 2 0), (3, .box 3 0), (36, .part (.one (.row 9 (a.msgs).length ((a.msgs).flatMap Msg.dats)))), (37, .is (.int .i64 ((a.msgs).length : Int))), (38, .is (.int .i64 (k.1 : Int)))])
  (fun _ => gB a) (fun k => gR a a.fields.length k.1 0) (fun k => (a.msgs).length - k.1) ⟨0, by omega⟩
  (fun K => e_sub ⟨s_t, s_t, s_t, s_t, s_t, s_t, trivial⟩ ⟨s_b, s_b, s_b, trivial⟩ ⟨rfl, rfl, rfl, trivial⟩) ?_
 rintro ⟨k, hk⟩
 dsimp only at hk ⊢
 try refine e_fl ?_
 refine e_plain (w_op rfl rfl rfl (s_bin rfl (kn rfl) (kn rfl) v_lss) .nil) ?_
 try refine e_fl ?_
 refine e_cond rfl (fun h => ?_) (fun h => ?_)
 ·have hlt : k < (a.msgs).length := by have := of_decide_eq_true h; omega
  obtain ⟨x, hx⟩ : ∃ x, (a.msgs)[k]? = some x := ⟨_, List.getElem?_eq_getElem hlt⟩
  have htk : (a.msgs).take (k + 1) = (a.msgs).take k ++ [x] := by rw [List.take_add_one, hx]; rfl
  try refine e_fl ?_
  refine e_list ?_
  refine l_op (s_index rfl (kn rfl) (kn rfl) (by omega) hx Msg.dats_len sle_31 esz_31 (dats_md x)) ?_
  refine l_op (s_loadn_ref rfl (kn rfl) agg_68 sz_68) ?_
  refine e_alloc 7 [.is (.string ⟨#[]⟩), .is (.slice none 0 0), .is (.slice none 0 0), .is (.slice none 0 0), .is (.slice none 0 0), .is (.slice none 0 0), .is (.slice none 0 0), .is (.int .i64 0), .is (.int .i64 0)] rfl rfl rfl rfl zr_68 (fun w D M V => ⟨rfl, fun j x v h1 h2 => cfit_is _ h1 h2 rfl⟩) rfl rfl rfl rfl ?_
  refine e_storew rfl rfl rfl (kn rfl) rfl (kn rfl) rfl rfl sz_68 ?_
  refine e_nil ?_
  try refine e_fl ?_
  refine e_draw_tail 5 mixed (by kernel_rfl) (w_op rfl rfl rfl (s_faddr_box rfl (kn rfl) off_68_3) (w_op rfl rfl rfl (s_load1_box rfl (kn rfl) rfl rfl one_31) (w_op rfl rfl rfl (s_loadn_box (ds := [_, _, _, _, _, _, _, _, _]) 9 rfl (kn rfl) rfl rfl agg_68 sz_68 rfl) (w_op rfl rfl rfl (s_call rfl (by kernel_rfl) (ih x (List.mem_of_getElem? hx)) ⟨(kn rfl), trivial⟩) (w_op rfl rfl rfl (s_buildSlice (ds := [_, _, _, _, _, _, _, _, _]) [(0, _)] rfl ⟨rfl, (kn rfl), trivial⟩ rfl sl_31 sz_68 zr_68 (fun w D => .cons (.cell _) (.cons (.cell _) (.cons (.cell _) (.cons (.cell _) (.cons (.cell _) (.cons (.cell _) (.cons (.cell _) (.cons (.cell _) (.cons (.cell _) (.nil _ _)))))))))) rfl rfl rfl rfl rfl) .nil))))) ?_
  refine e_append rfl rfl rfl rfl (kn rfl) rfl (kn rfl) sl_31 ap_31 rfl rfl (by first | omega | (dsimp only; omega) | omega) (by first | omega | (dsimp only; omega) | omega) ?_
  refine l_op (s_faddr_box rfl (kn rfl) off_68_3) ?_
  refine e_store_own rfl rfl rfl (kn rfl) rfl (kn rfl) rfl rfl sz_31 rfl ?_
  refine e_nil ?_
  try refine e_fl ?_
  refine e_plain (w_op rfl rfl rfl (s_bin rfl (kn rfl) (kn rfl) (v_add64 (by first | omega | (dsimp only; omega) | omega))) (w_mv rfl rfl rfl rfl rfl .nil)) ?_
  try refine e_fl ?_
  refine e_again ⟨k + 1, by omega⟩ (by dsimp only; omega) (fun K => e_sub ⟨s_t, s_t, s_t, s_t, s_t, s_t, trivial⟩ ⟨s_b, s_b, s_b, trivial⟩ ⟨rfl, rowEq rfl (by simp) (by rw [htk]; rw [List.map_append, List.flatMap_append, List.map_cons, List.map_nil, List.flatMap_cons, List.flatMap_nil, List.append_nil, dats_md]; rfl), rfl, trivial⟩)
 obtain rfl : k = (a.msgs).length := by have := of_decide_eq_false h; omega
 try refine e_fl ?_
 refine e_plain (w_op rfl rfl rfl (s_faddr_box rfl (kn rfl) off_68_4) (w_op rfl rfl rfl (s_load1_box rfl (kn rfl) rfl rfl one_32) (w_op rfl rfl rfl (s_len rfl (kn rfl) sle_32) (w_mv rfl rfl rfl rfl rfl .nil)))) ?_
 try refine e_fl ?_
 refine e_loop (ι := { k : Nat // k ≤ (a.enums).length })
  (fun k => [(1, .box 1 0), (2, .box 2 0), (3, .box 3 0), (51, .part (.one (.row 4 (a.enums).length ((a.enums).flatMap Enm.dats)))), (52, .is (.int .i64 ((a.enums).length : Int))), (53, .is (.int .i64 (k.1 : Int)))])
  (fun _ => gB a) (fun k => gR a a.fields.length a.msgs.length k.1) (fun k => (a.enums).length - k.1) ⟨0, by omega⟩
  (fun K => e_sub ⟨s_t, s_t, s_t, s_t, s_t, s_t, trivial⟩ ⟨s_b, s_b, s_b, trivial⟩ ⟨rfl, rfl, rfl, trivial⟩) ?_
 rintro ⟨k, hk⟩
 dsimp only at hk ⊢
 try refine e_fl ?_
 refine e_plain (w_op rfl rfl rfl (s_bin rfl (kn rfl) (kn rfl) v_lss) .nil) ?_
 try refine e_fl ?_
 refine e_cond rfl (fun h => ?_) (fun h => ?_)
 ·have hlt : k < (a.enums).length := by have := of_decide_eq_true h; omega
  obtain ⟨x, hx⟩ : ∃ x, (a.enums)[k]? = some x := ⟨_, List.getElem?_eq_getElem hlt⟩
  have htk : (a.enums).take (k + 1) = (a.enums).take k ++ [x] := by rw [List.take_add_one, hx]; rfl
  try refine e_fl ?_
  refine e_list ?_
  refine l_op (s_index rfl (kn rfl) (kn rfl) (by omega) hx Enm.dats_len sle_32 esz_32 rfl) ?_
  refine l_op (s_loadn_ref rfl (kn rfl) agg_72 sz_72) ?_
  refine e_alloc 9 [.is (.string ⟨#[]⟩), .is (.slice none 0 0), .is (.int .i64 0), .is (.int .i64 0)] rfl rfl rfl rfl zr_72 (fun w D M V => ⟨rfl, fun j x v h1 h2 => cfit_is _ h1 h2 rfl⟩) rfl rfl rfl rfl ?_
  refine e_storew rfl rfl rfl (kn rfl) rfl (kn rfl) rfl rfl sz_72 ?_
  refine e_nil ?_
  try refine e_fl ?_
  refine e_draw_tail 5 mixed (by kernel_rfl) (w_op rfl rfl rfl (s_faddr_box rfl (kn rfl) off_68_4) (w_op rfl rfl rfl (s_load1_box rfl (kn rfl) rfl rfl one_32) (w_op rfl rfl rfl (s_loadn_box (ds := [_, _, _, _]) 4 rfl (kn rfl) rfl rfl agg_72 sz_72 rfl) (w_op rfl rfl rfl (s_call rfl (by kernel_rfl) (flatEnum_ef x (f7 x (List.mem_of_getElem? hx))) ⟨(kn rfl), trivial⟩) (w_op rfl rfl rfl (s_buildSlice (ds := [_, _, _, _]) [(0, _)] rfl ⟨rfl, (kn rfl), trivial⟩ rfl sl_32 sz_72 zr_72 (fun w D => .cons (.cell _) (.cons (.cell _) (.cons (.cell _) (.cons (.cell _) (.nil _ _))))) rfl rfl rfl rfl rfl) .nil))))) ?_
  refine e_append rfl rfl rfl rfl (kn rfl) rfl (kn rfl) sl_32 ap_32 rfl rfl (by first | omega | (dsimp only; omega) | omega) (by first | omega | (dsimp only; omega) | omega) ?_
  refine l_op (s_faddr_box rfl (kn rfl) off_68_4) ?_
  refine e_store_own rfl rfl rfl (kn rfl) rfl (kn rfl) rfl rfl sz_32 rfl ?_
  refine e_nil ?_
  try refine e_fl ?_
  refine e_plain (w_op rfl rfl rfl (s_bin rfl (kn rfl) (kn rfl) (v_add64 (by first | omega | (dsimp only; omega) | omega))) (w_mv rfl rfl rfl rfl rfl .nil)) ?_
  try refine e_fl ?_
  refine e_again ⟨k + 1, by omega⟩ (by dsimp only; omega) (fun K => e_sub ⟨s_t, s_t, s_t, s_t, s_t, s_t, trivial⟩ ⟨s_b, s_b, s_b, trivial⟩ ⟨rfl, rfl, rowEq rfl (by simp) (by rw [htk]; simp [List.flatMap_append, Enm.dats]), trivial⟩)
 obtain rfl : k = (a.enums).length := by have := of_decide_eq_false h; omega
 try refine e_fl ?_
 refine e_freeze_cell 3 1 100 rfl rfl rfl rfl rfl ?_
 refine e_freeze_cell 3 3 102 rfl rfl rfl rfl rfl ?_
 refine e_freeze_cell 3 4 103 rfl rfl rfl rfl rfl ?_
 dsimp only
 rw [List.take_length, List.take_length, List.take_length]
 refine e_list ?_
 refine l_op (s_loadn_box (ds := [_, _, _, _, _, _, _, _, _]) 9 rfl (kn rfl) rfl rfl agg_68 sz_68 rfl) ?_
 refine e_storew rfl rfl rfl (kn rfl) rfl (kn rfl) rfl rfl sz_68 ?_
 refine e_nil ?_
 try refine e_fl ?_
 exact e_return rfl rfl (.cell rfl rfl rfl agg_68 sz_68 rfl (.nil)) (Imp.of_eq (by rw [md_flat]; rfl)) rfl
theorem flatMessage_ef (a : Msg) (ha : a.fine) : EF Tryz.prog [] 28 [.many (md a)] (.part (.many (md (flatMsg a)))) :=
 flatMessage_step a ha fun k hk => flatMessage_ef k (((Msg.fine_iff a).1 ha).2.2.2.2.2.2.2 k hk)
termination_by SizeOf.sizeOf a
decreasing_by exact Msg.mem_lt a k hk
theorem fil_flat (a : Fil) : (flatFil a).dats = [.cell (.string (str a.package)), .row 9 a.msgs.length ((a.msgs.map flatMsg).flatMap Msg.dats), .row 4 a.enums.length ((a.enums.map flatEnm).flatMap Enm.dats)] := by simp [Fil.dats, flatFil]
abbrev gfR (a : Fil) (m e : Nat) : RL := [(100, ⟨68, 9, m, ((a.msgs.take m).map flatMsg).flatMap Msg.dats, false⟩), (101, ⟨72, 4, e, ((a.enums.take e).map flatEnm).flatMap Enm.dats, false⟩)]
abbrev gfB (a : Fil) : BL := [(1, ⟨34, bcs a.dats⟩), (2, ⟨34, [.is (.string ⟨#[]⟩), .is (.slice none 0 0), .is (.slice none 0 0)]⟩), (3, ⟨34, [.is (.string (str a.package)), .own 100, .own 101]⟩)]
set_option maxRecDepth 100000 in
set_option maxHeartbeats 4000000 in
theorem flat_ef (a : Fil) (ha : a.fine) : EF Tryz.prog [] 13 [FQ a] (.part (FQ (flatFil a))) := by
 refine ef_enter 42 Tryz.func13 rfl rfl rfl fun w D => ?_
 try refine e_fl ?_
 obtain ⟨f1, f2, f3, f4⟩ := ha
 refine e_list ?_
 refine e_box 1 rfl rfl rfl rfl (kn rfl) rfl rfl rfl rfl ?_
 refine e_alloc 2 [.is (.string ⟨#[]⟩), .is (.slice none 0 0), .is (.slice none 0 0)] rfl rfl rfl rfl zr_34 (fun w D M V => ⟨rfl, fun j x v h1 h2 => cfit_is _ h1 h2 rfl⟩) rfl rfl rfl rfl ?_
 refine e_nil ?_
 try refine e_fl ?_
 refine e_list ?_
 refine l_op (s_faddr_box rfl (kn rfl) off_34_0) ?_
 refine l_op (s_load1_box rfl (kn rfl) rfl rfl one_9) ?_
 refine l_op (s_build (ds := [_, _, _]) [(0, _)] rfl ⟨rfl, (kn rfl), trivial⟩ rfl pl_34 zr_34 (fun w D => .cons (.cell _) (.cons (.cell _) (.cons (.cell _) (.nil _ _)))) rfl) ?_
 refine e_alloc 3 [.is (.string ⟨#[]⟩), .is (.slice none 0 0), .is (.slice none 0 0)] rfl rfl rfl rfl zr_34 (fun w D M V => ⟨rfl, fun j x v h1 h2 => cfit_is _ h1 h2 rfl⟩) rfl rfl rfl rfl ?_
 refine e_storew rfl rfl rfl (kn rfl) rfl (kn rfl) rfl rfl sz_34 ?_
 refine e_nil ?_
 try refine e_fl ?_
 refine e_row_cell 3 1 100 68 9 rfl rfl rfl rfl rfl ?_
 refine e_row_cell 3 2 101 72 4 rfl rfl rfl rfl rfl ?_
 refine e_plain (w_op rfl rfl rfl (s_faddr_box rfl (kn rfl) off_34_1) (w_op rfl rfl rfl (s_load1_box rfl (kn rfl) rfl rfl one_31) (w_op rfl rfl rfl (s_len rfl (kn rfl) sle_31) (w_mv rfl rfl rfl rfl rfl .nil)))) ?_
 try refine e_fl ?_
 refine e_loop (ι := { k : Nat // k ≤ (a.msgs).length })
  (fun k => [(1, .box 1 0), (2, .box 2 0), (3, .box 3 0), (12, .part (.one (.row 9 (a.msgs).length ((a.msgs).flatMap Msg.dats)))), (13, .is (.int .i64 ((a.msgs).length : Int))), (14, .is (.int .i64 (k.1 : Int)))])
  (fun _ => gfB a) (fun k => gfR a k.1 0) (fun k => (a.msgs).length - k.1) ⟨0, by omega⟩
  (fun K => e_sub ⟨s_t, s_t, s_t, s_t, s_t, s_t, trivial⟩ ⟨s_b, s_b, s_b, trivial⟩ ⟨rfl, rfl, trivial⟩) ?_
 rintro ⟨k, hk⟩
 dsimp only at hk ⊢
 try refine e_fl ?_
 refine e_plain (w_op rfl rfl rfl (s_bin rfl (kn rfl) (kn rfl) v_lss) .nil) ?_
 try refine e_fl ?_
 refine e_cond rfl (fun h => ?_) (fun h => ?_)
 ·have hlt : k < (a.msgs).length := by have := of_decide_eq_true h; omega
  obtain ⟨x, hx⟩ : ∃ x, (a.msgs)[k]? = some x := ⟨_, List.getElem?_eq_getElem hlt⟩
  have htk : (a.msgs).take (k + 1) = (a.msgs).take k ++ [x] := by rw [List.take_add_one, hx]; rfl
  try refine e_fl ?_
  refine e_list ?_
  refine l_op (s_index rfl (kn rfl) (kn rfl) (by omega) hx Msg.dats_len sle_31 esz_31 (dats_md x)) ?_
  refine l_op (s_loadn_ref rfl (kn rfl) agg_68 sz_68) ?_
  refine e_alloc 5 [.is (.string ⟨#[]⟩), .is (.slice none 0 0), .is (.slice none 0 0), .is (.slice none 0 0), .is (.slice none 0 0), .is (.slice none 0 0), .is (.slice none 0 0), .is (.int .i64 0), .is (.int .i64 0)] rfl rfl rfl rfl zr_68 (fun w D M V => ⟨rfl, fun j x v h1 h2 => cfit_is _ h1 h2 rfl⟩) rfl rfl rfl rfl ?_
  refine e_storew rfl rfl rfl (kn rfl) rfl (kn rfl) rfl rfl sz_68 ?_
  refine e_nil ?_
  try refine e_fl ?_
  refine e_draw_tail 5 mixed (by kernel_rfl) (w_op rfl rfl rfl (s_faddr_box rfl (kn rfl) off_34_1) (w_op rfl rfl rfl (s_load1_box rfl (kn rfl) rfl rfl one_31) (w_op rfl rfl rfl (s_loadn_box (ds := [_, _, _, _, _, _, _, _, _]) 9 rfl (kn rfl) rfl rfl agg_68 sz_68 rfl) (w_op rfl rfl rfl (s_call rfl (by kernel_rfl) (flatMessage_ef x (f4 x (List.mem_of_getElem? hx))) ⟨(kn rfl), trivial⟩) (w_op rfl rfl rfl (s_buildSlice (ds := [_, _, _, _, _, _, _, _, _]) [(0, _)] rfl ⟨rfl, (kn rfl), trivial⟩ rfl sl_31 sz_68 zr_68 (fun w D => .cons (.cell _) (.cons (.cell _) (.cons (.cell _) (.cons (.cell _) (.cons (.cell _) (.cons (.cell _) (.cons (.cell _) (.cons (.cell _) (.cons (.cell _) (.nil _ _)))))))))) rfl rfl rfl rfl rfl) .nil))))) ?_
  refine e_append rfl rfl rfl rfl (kn rfl) rfl (kn rfl) sl_31 ap_31 rfl rfl (by first | omega | (dsimp only; omega) | omega) (by first | omega | (dsimp only; omega) | omega) ?_
  refine l_op (s_faddr_box rfl (kn rfl) off_34_1) ?_
  refine e_store_own rfl rfl rfl (kn rfl) rfl (kn rfl) rfl rfl sz_31 rfl ?_
  refine e_nil ?_
  try refine e_fl ?_
  refine e_plain (w_op rfl rfl rfl (s_bin rfl (kn rfl) (kn rfl) (v_add64 (by first | omega | (dsimp only; omega) | omega))) (w_mv rfl rfl rfl rfl rfl .nil)) ?_
  try refine e_fl ?_
  refine e_again ⟨k + 1, by omega⟩ (by dsimp only; omega) (fun K => e_sub ⟨s_t, s_t, s_t, s_t, s_t, s_t, trivial⟩ ⟨s_b, s_b, s_b, trivial⟩ ⟨rowEq rfl (by simp) (by rw [htk]; rw [List.map_append, List.flatMap_append, List.map_cons, List.map_nil, List.flatMap_cons, List.flatMap_nil, List.append_nil, dats_md]; rfl), rfl, trivial⟩)
 obtain rfl : k = (a.msgs).length := by have := of_decide_eq_false h; omega
 try refine e_fl ?_
 refine e_plain (w_op rfl rfl rfl (s_faddr_box rfl (kn rfl) off_34_2) (w_op rfl rfl rfl (s_load1_box rfl (kn rfl) rfl rfl one_32) (w_op rfl rfl rfl (s_len rfl (kn rfl) sle_32) (w_mv rfl rfl rfl rfl rfl .nil)))) ?_
 try refine e_fl ?_
 refine e_loop (ι := { k : Nat // k ≤ (a.enums).length })
  (fun k => [(1, .box 1 0), (2, .box 2 0), (3, .box 3 0), (27, .part (.one (.row 4 (a.enums).length ((a.enums).flatMap Enm.dats)))), (28, .is (.int .i64 ((a.enums).length : Int))), (29, .is (.int .i64 (k.1 : Int)))])
  (fun _ => gfB a) (fun k => gfR a a.msgs.length k.1) (fun k => (a.enums).length - k.1) ⟨0, by omega⟩
  (fun K => e_sub ⟨s_t, s_t, s_t, s_t, s_t, s_t, trivial⟩ ⟨s_b, s_b, s_b, trivial⟩ ⟨rfl, rfl, trivial⟩) ?_
 rintro ⟨k, hk⟩
 dsimp only at hk ⊢
 try refine e_fl ?_
 refine e_plain (w_op rfl rfl rfl (s_bin rfl (kn rfl) (kn rfl) v_lss) .nil) ?_
 try refine e_fl ?_
 refine e_cond rfl (fun h => ?_) (fun h => ?_)
 ·have hlt : k < (a.enums).length := by have := of_decide_eq_true h; omega
  obtain ⟨x, hx⟩ : ∃ x, (a.enums)[k]? = some x := ⟨_, List.getElem?_eq_getElem hlt⟩
  have htk : (a.enums).take (k + 1) = (a.enums).take k ++ [x] := by rw [List.take_add_one, hx]; rfl
  try refine e_fl ?_
  refine e_list ?_
  refine l_op (s_index rfl (kn rfl) (kn rfl) (by omega) hx Enm.dats_len sle_32 esz_32 rfl) ?_
  refine l_op (s_loadn_ref rfl (kn rfl) agg_72 sz_72) ?_
  refine e_alloc 7 [.is (.string ⟨#[]⟩), .is (.slice none 0 0), .is (.int .i64 0), .is (.int .i64 0)] rfl rfl rfl rfl zr_72 (fun w D M V => ⟨rfl, fun j x v h1 h2 => cfit_is _ h1 h2 rfl⟩) rfl rfl rfl rfl ?_
  refine e_storew rfl rfl rfl (kn rfl) rfl (kn rfl) rfl rfl sz_72 ?_
  refine e_nil ?_
  try refine e_fl ?_
  refine e_draw_tail 5 mixed (by kernel_rfl) (w_op rfl rfl rfl (s_faddr_box rfl (kn rfl) off_34_2) (w_op rfl rfl rfl (s_load1_box rfl (kn rfl) rfl rfl one_32) (w_op rfl rfl rfl (s_loadn_box (ds := [_, _, _, _]) 4 rfl (kn rfl) rfl rfl agg_72 sz_72 rfl) (w_op rfl rfl rfl (s_call rfl (by kernel_rfl) (flatEnum_ef x (f3 x (List.mem_of_getElem? hx))) ⟨(kn rfl), trivial⟩) (w_op rfl rfl rfl (s_buildSlice (ds := [_, _, _, _]) [(0, _)] rfl ⟨rfl, (kn rfl), trivial⟩ rfl sl_32 sz_72 zr_72 (fun w D => .cons (.cell _) (.cons (.cell _) (.cons (.cell _) (.cons (.cell _) (.nil _ _))))) rfl rfl rfl rfl rfl) .nil))))) ?_
  refine e_append rfl rfl rfl rfl (kn rfl) rfl (kn rfl) sl_32 ap_32 rfl rfl (by first | omega | (dsimp only; omega) | omega) (by first | omega | (dsimp only; omega) | omega) ?_
  refine l_op (s_faddr_box rfl (kn rfl) off_34_2) ?_
  refine e_store_own rfl rfl rfl (kn rfl) rfl (kn rfl) rfl rfl sz_32 rfl ?_
  refine e_nil ?_
  try refine e_fl ?_
  refine e_plain (w_op rfl rfl rfl (s_bin rfl (kn rfl) (kn rfl) (v_add64 (by first | omega | (dsimp only; omega) | omega))) (w_mv rfl rfl rfl rfl rfl .nil)) ?_
  try refine e_fl ?_
  refine e_again ⟨k + 1, by omega⟩ (by dsimp only; omega) (fun K => e_sub ⟨s_t, s_t, s_t, s_t, s_t, s_t, trivial⟩ ⟨s_b, s_b, s_b, trivial⟩ ⟨rfl, rowEq rfl (by simp) (by rw [htk]; simp [List.flatMap_append, Enm.dats]), trivial⟩)
 obtain rfl : k = (a.enums).length := by have := of_decide_eq_false h; omega
 try refine e_fl ?_
 refine e_freeze_cell 3 1 100 rfl rfl rfl rfl rfl ?_
 refine e_freeze_cell 3 2 101 rfl rfl rfl rfl rfl ?_
 dsimp only
 rw [List.take_length, List.take_length]
 refine e_list ?_
 refine l_op (s_loadn_box (ds := [_, _, _]) 3 rfl (kn rfl) rfl rfl agg_34 sz_34 rfl) ?_
 refine e_storew rfl rfl rfl (kn rfl) rfl (kn rfl) rfl rfl sz_34 ?_
 refine e_nil ?_
 try refine e_fl ?_
 exact e_return rfl rfl (.cell rfl rfl rfl agg_34 sz_34 rfl (.nil)) (Imp.of_eq (by show _ = IV.part (Part.many (flatFil a).dats); rw [fil_flat]; rfl)) rfl
end Go.Proofs.YtfcjeciepadmeaaGreatDoor
