/- Part 14 of what the last text of this claim is proved by: walks over the program, and the math behind them. Conditions: as each theorem says. -/
import Derived.Test.YtfcjeciepadmeaaGreatDoorTx13
import Derived.Test.YtfcjeciepadmeaaGreatDoorProg
namespace Go.Proofs.YtfcjeciepadmeaaGreatDoor
open Go.RowKit
set_option maxRecDepth 100000 in
theorem rest_y (l : List Tk) (hl : TksOk l) (f : Fld) (p : Nat) (hp : p ≤ 100000) : EFx Tryz.prog [] 114 [tksP l, .many f.dats, iP p] (RY fQ (sRest l f p)) := by
 refine ef_enter 67 Tryz.func114 rfl rfl rfl fun w D => ?_
 try refine e_fl ?_
 have hll := hl.len
 refine e_list ?_
 refine e_box 4 rfl rfl rfl rfl (kn rfl) rfl rfl rfl rfl ?_
 refine e_alloc 6 [.is (.string ⟨#[]⟩), .is (.string ⟨#[]⟩), .is (.string ⟨#[]⟩), .is (.string ⟨#[]⟩), .is (.int .i64 0), .is (.int .i64 0), .is (.int .i64 0), .is (.int .i64 0), .is (.int .i64 0), .is (.int .i64 0)] rfl rfl rfl rfl zr_112 (fun w D M V => ⟨rfl, fun j x v h1 h2 => cfit_is _ h1 h2 rfl⟩) rfl rfl rfl rfl ?_
 refine l_as ?_
 refine e_alloc 8 [.is (.int .i64 0), .is (.int .i64 0)] rfl rfl rfl rfl zr_102 (fun w D M V => ⟨rfl, fun j x v h1 h2 => cfit_is _ h1 h2 rfl⟩) rfl rfl rfl rfl ?_
 refine e_nil ?_
 try refine e_fl ?_
 refine e_list ?_
 refine l_mv ?_
 refine l_mv ?_
 refine e_list_call rfl rfl rfl rfl (by kernel_rfl) (name_y l hl p) ⟨(kn rfl), ⟨(kn rfl), trivial⟩⟩ ?_
 rintro _ ⟨x, q, a, b, rfl, hr⟩
 refine l_mv ?_
 refine l_ex ?_
 refine l_ex ?_
 refine l_ex ?_
 refine e_alloc 9 [.is (.int .i64 0), .is (.string ⟨#[]⟩), .is (.int .i64 0), .is (.int .i64 0), .is (.int .i64 0)] rfl rfl rfl rfl zr_97 (fun w D M V => ⟨rfl, fun j x v h1 h2 => cfit_is _ h1 h2 rfl⟩) rfl rfl rfl rfl ?_
 refine e_alloc 10 [.is (.int .i64 0), .is (.int .i64 0)] rfl rfl rfl rfl zr_102 (fun w D M V => ⟨rfl, fun j x v h1 h2 => cfit_is _ h1 h2 rfl⟩) rfl rfl rfl rfl ?_
 refine e_storew rfl rfl rfl (kn rfl) rfl (kn rfl) rfl rfl sz_97 ?_
 refine l_as ?_
 refine e_storew rfl rfl rfl (kn rfl) rfl (kn rfl) rfl rfl sz_102 ?_
 refine e_nil ?_
 try refine e_fl ?_
 refine e_plain (w_op rfl rfl rfl (s_faddr_box rfl (kn rfl) off_102_1) (w_op rfl rfl rfl (s_load1_box rfl (kn rfl) rfl rfl one_3) (w_op rfl rfl rfl (s_bin rfl (kn rfl) (kn rfl) v_neq) .nil))) ?_
 try refine e_fl ?_
 refine e_cond rfl (fun h => ?_) (fun h => ?_)
 ·obtain ⟨hb, he⟩ := hr.bad h
  try refine e_fl ?_
  refine e_draw_mix [(6, _), (8, _)] mixed (by kernel_rfl) (WalkM.op rfl rfl rfl (s_loadn_box (ds := [_, _, _, _, _, _, _, _, _, _]) 10 rfl (kn rfl) rfl rfl agg_112 sz_112 rfl) (WalkM.op rfl rfl rfl (s_move rfl (kn rfl)) (WalkM.op rfl rfl rfl (s_loadn_box (ds := [_, _]) 2 rfl (kn rfl) rfl rfl agg_102 sz_102 rfl) (WalkM.stw rfl rfl rfl (kn rfl) rfl rfl (kn rfl) rfl rfl rfl sz_112 (WalkM.op rfl rfl rfl (s_assign rfl (kn rfl)) (WalkM.stw rfl rfl rfl (kn rfl) rfl rfl (kn rfl) rfl rfl rfl sz_102 (WalkM.nil))))))) rfl ?_
  try refine e_fl ?_
  exact e_return rfl rfl (.cell rfl rfl rfl agg_112 sz_112 rfl (.tmp (kn rfl) (.cell rfl rfl rfl agg_102 sz_102 rfl (.nil)))) (Imp.refl _) (⟨f, q, a, b, rfl, .ill hb (by simp only [sRest, he])⟩)
 obtain ⟨rfl, rfl, hx⟩ := hr.ok h
 try refine e_fl ?_
 have hx1 := sName_ok hx
 refine e_draw_mix [(4, [some _, none, none, none, none, none, none, none, some _, some _])] mixed (by kernel_rfl) (WalkM.op rfl rfl rfl (s_faddr_box rfl (kn rfl) off_97_1) (WalkM.op rfl rfl rfl (s_load1_box rfl (kn rfl) rfl rfl one_9) (WalkM.op rfl rfl rfl (s_faddr_box rfl (kn rfl) off_97_3) (WalkM.op rfl rfl rfl (s_load1_box rfl (kn rfl) rfl rfl one_3) (WalkM.op rfl rfl rfl (s_faddr_box rfl (kn rfl) off_97_4) (WalkM.op rfl rfl rfl (s_load1_box rfl (kn rfl) rfl rfl one_3) (WalkM.op rfl rfl rfl (s_faddr_box rfl (kn rfl) off_112_0) (WalkM.st1 rfl rfl rfl (kn rfl) rfl rfl (kn rfl) rfl rfl rfl sz_9 (WalkM.op rfl rfl rfl (s_faddr_box rfl (kn rfl) off_112_8) (WalkM.st1 rfl rfl rfl (kn rfl) rfl rfl (kn rfl) rfl rfl rfl sz_3 (WalkM.op rfl rfl rfl (s_faddr_box rfl (kn rfl) off_112_9) (WalkM.st1 rfl rfl rfl (kn rfl) rfl rfl (kn rfl) rfl rfl rfl sz_3 (WalkM.nil))))))))))))) rfl ?_
 try refine e_fl ?_
 refine e_list ?_
 refine l_mv ?_
 refine l_mv ?_
 refine l_op (s_buildSlice (ds := [_]) [(0, _)] rfl ⟨rfl, (kn rfl), trivial⟩ rfl sl_49 sz_9 zr_9 (fun w D => .cons (.cell _) (.nil _ _)) rfl rfl rfl rfl rfl) ?_
 refine e_list_call rfl rfl rfl rfl (by kernel_rfl) (want1 l hl 4 [61] rfl (by simp) q (by omega)) ⟨(kn rfl), ⟨(kn rfl), ⟨(kn rfl), trivial⟩⟩⟩ ?_
 rintro _ ⟨r, a, b, rfl, hr⟩
 refine l_mv ?_
 refine l_ex ?_
 refine l_ex ?_
 refine l_as ?_
 refine e_storew rfl rfl rfl (kn rfl) rfl (kn rfl) rfl rfl sz_102 ?_
 refine e_nil ?_
 try refine e_fl ?_
 refine e_plain (w_op rfl rfl rfl (s_faddr_box rfl (kn rfl) off_102_1) (w_op rfl rfl rfl (s_load1_box rfl (kn rfl) rfl rfl one_3) (w_op rfl rfl rfl (s_bin rfl (kn rfl) (kn rfl) v_neq) .nil))) ?_
 try refine e_fl ?_
 refine e_cond rfl (fun h => ?_) (fun h => ?_)
 ·obtain ⟨hb, he⟩ := hr.bad h
  try refine e_fl ?_
  refine e_draw_mix [(6, _), (8, _)] mixed (by kernel_rfl) (WalkM.op rfl rfl rfl (s_loadn_box (ds := [_, _, _, _, _, _, _, _, _, _]) 10 rfl (kn rfl) rfl rfl agg_112 sz_112 rfl) (WalkM.op rfl rfl rfl (s_move rfl (kn rfl)) (WalkM.op rfl rfl rfl (s_loadn_box (ds := [_, _]) 2 rfl (kn rfl) rfl rfl agg_102 sz_102 rfl) (WalkM.stw rfl rfl rfl (kn rfl) rfl rfl (kn rfl) rfl rfl rfl sz_112 (WalkM.op rfl rfl rfl (s_assign rfl (kn rfl)) (WalkM.stw rfl rfl rfl (kn rfl) rfl rfl (kn rfl) rfl rfl rfl sz_102 (WalkM.nil))))))) rfl ?_
  try refine e_fl ?_
  exact e_return rfl rfl (.cell rfl rfl rfl agg_112 sz_112 rfl (.tmp (kn rfl) (.cell rfl rfl rfl agg_102 sz_102 rfl (.nil)))) (Imp.refl _) (⟨{ f with name := x.1.t, line := x.2.1, col := x.2.2 }, r, a, b, rfl, .ill hb (by simp only [sRest, hx, he])⟩)
 obtain ⟨rfl, rfl, ho⟩ := hr.ok h
 try refine e_fl ?_
 have ho1 := sWant_ok ho
 refine e_list ?_
 refine l_mv ?_
 refine l_mv ?_
 refine e_list_call rfl rfl rfl rfl (by kernel_rfl) (number_y l hl r) ⟨(kn rfl), ⟨(kn rfl), trivial⟩⟩ ?_
 rintro _ ⟨n, s, a, b, rfl, hr⟩
 refine l_mv ?_
 refine l_ex ?_
 refine l_ex ?_
 refine l_ex ?_
 refine l_op (s_faddr_box rfl (kn rfl) off_112_5) ?_
 refine e_store1 rfl rfl rfl (kn rfl) rfl (kn rfl) rfl rfl sz_3 rfl ?_
 refine l_as ?_
 refine e_storew rfl rfl rfl (kn rfl) rfl (kn rfl) rfl rfl sz_102 ?_
 refine e_nil ?_
 try refine e_fl ?_
 refine e_plain (w_op rfl rfl rfl (s_faddr_box rfl (kn rfl) off_102_1) (w_op rfl rfl rfl (s_load1_box rfl (kn rfl) rfl rfl one_3) (w_op rfl rfl rfl (s_bin rfl (kn rfl) (kn rfl) v_neq) .nil))) ?_
 try refine e_fl ?_
 refine e_cond rfl (fun h => ?_) (fun h => ?_)
 ·obtain ⟨hb, he⟩ := hr.bad h
  try refine e_fl ?_
  refine e_draw_mix [(6, _), (8, _)] mixed (by kernel_rfl) (WalkM.op rfl rfl rfl (s_loadn_box (ds := [_, _, _, _, _, _, _, _, _, _]) 10 rfl (kn rfl) rfl rfl agg_112 sz_112 rfl) (WalkM.op rfl rfl rfl (s_move rfl (kn rfl)) (WalkM.op rfl rfl rfl (s_loadn_box (ds := [_, _]) 2 rfl (kn rfl) rfl rfl agg_102 sz_102 rfl) (WalkM.stw rfl rfl rfl (kn rfl) rfl rfl (kn rfl) rfl rfl rfl sz_112 (WalkM.op rfl rfl rfl (s_assign rfl (kn rfl)) (WalkM.stw rfl rfl rfl (kn rfl) rfl rfl (kn rfl) rfl rfl rfl sz_102 (WalkM.nil))))))) rfl ?_
  try refine e_fl ?_
  exact e_return rfl rfl (.cell rfl rfl rfl agg_112 sz_112 rfl (.tmp (kn rfl) (.cell rfl rfl rfl agg_102 sz_102 rfl (.nil)))) (Imp.refl _) (⟨{ f with name := x.1.t, line := x.2.1, col := x.2.2, number := n }, s, a, b, rfl, .ill hb (by simp only [sRest, hx, ho, he])⟩)
 obtain ⟨rfl, rfl, hn⟩ := hr.ok h
 try refine e_fl ?_
 have hn1 := sNumber_ok hn
 have hw : sRest l f p = sOptions l { f with name := x.1.t, line := x.2.1, col := x.2.2, number := n } s := by simp only [sRest, hx, ho, hn]
 refine e_list ?_
 refine l_mv ?_
 refine l_op (s_loadn_box (ds := [_, _, _, _, _, _, _, _, _, _]) 10 rfl (kn rfl) rfl rfl agg_112 sz_112 rfl) ?_
 refine l_mv ?_
 refine e_list_call rfl rfl rfl rfl (by kernel_rfl) (options_y l hl { f with name := x.1.t, line := x.2.1, col := x.2.2, number := n } s (by omega)) ⟨(kn rfl), ⟨(kn rfl), ⟨(kn rfl), trivial⟩⟩⟩ ?_
 rintro _ ⟨g, u, a, b, rfl, hr⟩
 refine l_ex ?_
 refine l_ex ?_
 refine l_ex ?_
 refine e_storew rfl rfl rfl (kn rfl) rfl (kn rfl) rfl rfl sz_112 ?_
 refine l_as ?_
 refine e_storew rfl rfl rfl (kn rfl) rfl (kn rfl) rfl rfl sz_102 ?_
 refine e_nil ?_
 try refine e_fl ?_
 exact e_return rfl rfl (.cell rfl rfl rfl agg_112 sz_112 rfl (.tmp (kn rfl) (.cell rfl rfl rfl agg_102 sz_102 rfl (.nil)))) (Imp.refl _) (⟨g, u, a, b, rfl, hw ▸ hr⟩)
set_option maxRecDepth 100000 in
theorem field_y (l : List Tk) (hl : TksOk l) (p : Nat) (hp : p ≤ 100000) (label oneof : Int) : EFx Tryz.prog [] 94 [tksP l, iP p, iP label, iP oneof] (RY fQ (sField l p label oneof)) := by
 refine ef_enter 39 Tryz.func94 rfl rfl rfl fun w D => ?_
 try refine e_fl ?_
 have hll := hl.len
 refine e_list ?_
 refine e_alloc 8 [.is (.string ⟨#[]⟩), .is (.string ⟨#[]⟩), .is (.string ⟨#[]⟩), .is (.string ⟨#[]⟩), .is (.int .i64 0), .is (.int .i64 0), .is (.int .i64 0), .is (.int .i64 0), .is (.int .i64 0), .is (.int .i64 0)] rfl rfl rfl rfl zr_112 (fun w D M V => ⟨rfl, fun j x v h1 h2 => cfit_is _ h1 h2 rfl⟩) rfl rfl rfl rfl ?_
 refine l_as ?_
 refine e_alloc 10 [.is (.int .i64 0), .is (.int .i64 0)] rfl rfl rfl rfl zr_102 (fun w D M V => ⟨rfl, fun j x v h1 h2 => cfit_is _ h1 h2 rfl⟩) rfl rfl rfl rfl ?_
 refine e_nil ?_
 try refine e_fl ?_
 refine e_list ?_
 refine l_mv ?_
 refine l_mv ?_
 refine l_op (s_build (ds := [_, _, _, _, _, _, _, _, _, _]) [(4, _), (7, _)] rfl ⟨rfl, (kn rfl), ⟨rfl, (kn rfl), trivial⟩⟩ rfl pl_112 zr_112 (fun w D => .cons (.cell _) (.cons (.cell _) (.cons (.cell _) (.cons (.cell _) (.cons (.cell _) (.cons (.cell _) (.cons (.cell _) (.cons (.cell _) (.cons (.cell _) (.cons (.cell _) (.nil _ _))))))))))) rfl) ?_
 refine e_alloc 11 [.is (.string ⟨#[]⟩), .is (.string ⟨#[]⟩), .is (.string ⟨#[]⟩), .is (.string ⟨#[]⟩), .is (.int .i64 0), .is (.int .i64 0), .is (.int .i64 0), .is (.int .i64 0), .is (.int .i64 0), .is (.int .i64 0)] rfl rfl rfl rfl zr_112 (fun w D M V => ⟨rfl, fun j x v h1 h2 => cfit_is _ h1 h2 rfl⟩) rfl rfl rfl rfl ?_
 refine e_storew rfl rfl rfl (kn rfl) rfl (kn rfl) rfl rfl sz_112 ?_
 refine e_nil ?_
 try refine e_fl ?_
 refine e_list ?_
 refine l_mv ?_
 refine l_mv ?_
 refine e_list_call rfl rfl rfl rfl (by kernel_rfl) (dotted_y l hl p hp true) ⟨(kn rfl), ⟨(kn rfl), ⟨(kn rfl), trivial⟩⟩⟩ ?_
 rintro _ ⟨t, q, a, b, rfl, hr⟩
 refine l_mv ?_
 refine l_ex ?_
 refine l_ex ?_
 refine l_ex ?_
 refine e_alloc 13 [.is (.int .i64 0), .is (.int .i64 0)] rfl rfl rfl rfl zr_102 (fun w D M V => ⟨rfl, fun j x v h1 h2 => cfit_is _ h1 h2 rfl⟩) rfl rfl rfl rfl ?_
 refine l_as ?_
 refine l_as ?_
 refine e_storew rfl rfl rfl (kn rfl) rfl (kn rfl) rfl rfl sz_102 ?_
 refine e_nil ?_
 try refine e_fl ?_
 refine e_plain (w_op rfl rfl rfl (s_faddr_box rfl (kn rfl) off_102_1) (w_op rfl rfl rfl (s_load1_box rfl (kn rfl) rfl rfl one_3) (w_op rfl rfl rfl (s_bin rfl (kn rfl) (kn rfl) v_neq) .nil))) ?_
 try refine e_fl ?_
 refine e_cond rfl (fun h => ?_) (fun h => ?_)
 ·obtain ⟨hb, he⟩ := hr.bad h
  try refine e_fl ?_
  refine e_draw_mix [(8, _), (10, _)] mixed (by kernel_rfl) (WalkM.op rfl rfl rfl (s_loadn_box (ds := [_, _, _, _, _, _, _, _, _, _]) 10 rfl (kn rfl) rfl rfl agg_112 sz_112 rfl) (WalkM.op rfl rfl rfl (s_move rfl (kn rfl)) (WalkM.op rfl rfl rfl (s_loadn_box (ds := [_, _]) 2 rfl (kn rfl) rfl rfl agg_102 sz_102 rfl) (WalkM.stw rfl rfl rfl (kn rfl) rfl rfl (kn rfl) rfl rfl rfl sz_112 (WalkM.op rfl rfl rfl (s_assign rfl (kn rfl)) (WalkM.stw rfl rfl rfl (kn rfl) rfl rfl (kn rfl) rfl rfl rfl sz_102 (WalkM.nil))))))) rfl ?_
  try refine e_fl ?_
  exact e_return rfl rfl (.cell rfl rfl rfl agg_112 sz_112 rfl (.tmp (kn rfl) (.cell rfl rfl rfl agg_102 sz_102 rfl (.nil)))) (Imp.refl _) (⟨fld0 label oneof, q, a, b, rfl, .ill hb (by simp only [sField, he])⟩)
 obtain ⟨rfl, rfl, ht⟩ := hr.ok h
 try refine e_fl ?_
 have ht1 := sDotted_ok ht
 have hw : sField l p label oneof = sRest l { fld0 label oneof with type := t } q := by simp only [sField, ht]
 refine e_list ?_
 refine l_mv ?_
 refine l_op (s_faddr_box rfl (kn rfl) off_112_1) ?_
 refine e_store1 rfl rfl rfl (kn rfl) rfl (kn rfl) rfl rfl sz_9 rfl ?_
 refine e_nil ?_
 try refine e_fl ?_
 refine e_list ?_
 refine l_mv ?_
 refine l_op (s_loadn_box (ds := [_, _, _, _, _, _, _, _, _, _]) 10 rfl (kn rfl) rfl rfl agg_112 sz_112 rfl) ?_
 refine l_mv ?_
 refine e_list_call rfl rfl rfl rfl (by kernel_rfl) (rest_y l hl { fld0 label oneof with type := t } q (by omega)) ⟨(kn rfl), ⟨(kn rfl), ⟨(kn rfl), trivial⟩⟩⟩ ?_
 rintro _ ⟨g, u, a, b, rfl, hr⟩
 refine l_ex ?_
 refine l_ex ?_
 refine l_ex ?_
 refine e_storew rfl rfl rfl (kn rfl) rfl (kn rfl) rfl rfl sz_112 ?_
 refine l_as ?_
 refine e_storew rfl rfl rfl (kn rfl) rfl (kn rfl) rfl rfl sz_102 ?_
 refine e_nil ?_
 try refine e_fl ?_
 exact e_return rfl rfl (.cell rfl rfl rfl agg_112 sz_112 rfl (.tmp (kn rfl) (.cell rfl rfl rfl agg_102 sz_102 rfl (.nil)))) (Imp.refl _) (⟨g, u, a, b, rfl, hw ▸ hr⟩)
set_option maxRecDepth 100000 in
theorem mapped_y (l : List Tk) (hl : TksOk l) (p : Nat) (hp : p ≤ 100000) : EFx Tryz.prog [] 95 [tksP l, iP p] (RY fQ (sMapped l p)) := by
 refine ef_enter 87 Tryz.func95 rfl rfl rfl fun w D => ?_
 try refine e_fl ?_
 have hll := hl.len
 refine e_list ?_
 refine e_alloc 4 [.is (.string ⟨#[]⟩), .is (.string ⟨#[]⟩), .is (.string ⟨#[]⟩), .is (.string ⟨#[]⟩), .is (.int .i64 0), .is (.int .i64 0), .is (.int .i64 0), .is (.int .i64 0), .is (.int .i64 0), .is (.int .i64 0)] rfl rfl rfl rfl zr_112 (fun w D M V => ⟨rfl, fun j x v h1 h2 => cfit_is _ h1 h2 rfl⟩) rfl rfl rfl rfl ?_
 refine l_as ?_
 refine e_alloc 6 [.is (.int .i64 0), .is (.int .i64 0)] rfl rfl rfl rfl zr_102 (fun w D M V => ⟨rfl, fun j x v h1 h2 => cfit_is _ h1 h2 rfl⟩) rfl rfl rfl rfl ?_
 refine e_nil ?_
 try refine e_fl ?_
 refine e_list ?_
 refine l_op (s_build (ds := [_, _, _, _, _, _, _, _, _, _]) [(4, _)] rfl ⟨rfl, (kn rfl), trivial⟩ rfl pl_112 zr_112 (fun w D => .cons (.cell _) (.cons (.cell _) (.cons (.cell _) (.cons (.cell _) (.cons (.cell _) (.cons (.cell _) (.cons (.cell _) (.cons (.cell _) (.cons (.cell _) (.cons (.cell _) (.nil _ _))))))))))) rfl) ?_
 refine e_alloc 7 [.is (.string ⟨#[]⟩), .is (.string ⟨#[]⟩), .is (.string ⟨#[]⟩), .is (.string ⟨#[]⟩), .is (.int .i64 0), .is (.int .i64 0), .is (.int .i64 0), .is (.int .i64 0), .is (.int .i64 0), .is (.int .i64 0)] rfl rfl rfl rfl zr_112 (fun w D M V => ⟨rfl, fun j x v h1 h2 => cfit_is _ h1 h2 rfl⟩) rfl rfl rfl rfl ?_
 refine e_storew rfl rfl rfl (kn rfl) rfl (kn rfl) rfl rfl sz_112 ?_
 refine e_nil ?_
 try refine e_fl ?_
 refine e_list ?_
 refine l_mv ?_
 refine l_mv ?_
 refine l_op (s_buildSlice (ds := [_]) [(0, _)] rfl ⟨rfl, (kn rfl), trivial⟩ rfl sl_49 sz_9 zr_9 (fun w D => .cons (.cell _) (.nil _ _)) rfl rfl rfl rfl rfl) ?_
 refine e_list_call rfl rfl rfl rfl (by kernel_rfl) (want1 l hl 4 [60] rfl (by simp) p (by omega)) ⟨(kn rfl), ⟨(kn rfl), ⟨(kn rfl), trivial⟩⟩⟩ ?_
 rintro _ ⟨q, a, b, rfl, hr⟩
 refine l_mv ?_
 refine l_ex ?_
 refine l_ex ?_
 refine e_alloc 8 [.is (.int .i64 0), .is (.int .i64 0)] rfl rfl rfl rfl zr_102 (fun w D M V => ⟨rfl, fun j x v h1 h2 => cfit_is _ h1 h2 rfl⟩) rfl rfl rfl rfl ?_
 refine l_as ?_
 refine e_storew rfl rfl rfl (kn rfl) rfl (kn rfl) rfl rfl sz_102 ?_
 refine e_nil ?_
 try refine e_fl ?_
 refine e_plain (w_op rfl rfl rfl (s_faddr_box rfl (kn rfl) off_102_1) (w_op rfl rfl rfl (s_load1_box rfl (kn rfl) rfl rfl one_3) (w_op rfl rfl rfl (s_bin rfl (kn rfl) (kn rfl) v_neq) .nil))) ?_
 try refine e_fl ?_
 refine e_cond rfl (fun h => ?_) (fun h => ?_)
 ·obtain ⟨hb, he⟩ := hr.bad h
  try refine e_fl ?_
  refine e_draw_mix [(4, _), (6, _)] mixed (by kernel_rfl) (WalkM.op rfl rfl rfl (s_loadn_box (ds := [_, _, _, _, _, _, _, _, _, _]) 10 rfl (kn rfl) rfl rfl agg_112 sz_112 rfl) (WalkM.op rfl rfl rfl (s_move rfl (kn rfl)) (WalkM.op rfl rfl rfl (s_loadn_box (ds := [_, _]) 2 rfl (kn rfl) rfl rfl agg_102 sz_102 rfl) (WalkM.stw rfl rfl rfl (kn rfl) rfl rfl (kn rfl) rfl rfl rfl sz_112 (WalkM.op rfl rfl rfl (s_assign rfl (kn rfl)) (WalkM.stw rfl rfl rfl (kn rfl) rfl rfl (kn rfl) rfl rfl rfl sz_102 (WalkM.nil))))))) rfl ?_
  try refine e_fl ?_
  exact e_return rfl rfl (.cell rfl rfl rfl agg_112 sz_112 rfl (.tmp (kn rfl) (.cell rfl rfl rfl agg_102 sz_102 rfl (.nil)))) (Imp.refl _) (⟨fld0 4 0, q, a, b, rfl, .ill hb (by simp only [sMapped, he])⟩)
 obtain ⟨rfl, rfl, h1⟩ := hr.ok h
 try refine e_fl ?_
 have g1 := sWant_ok h1
 refine e_list ?_
 refine l_mv ?_
 refine l_mv ?_
 refine e_list_call rfl rfl rfl rfl (by kernel_rfl) (name_y l hl q) ⟨(kn rfl), ⟨(kn rfl), trivial⟩⟩ ?_
 rintro _ ⟨x, r, a, b, rfl, hr⟩
 refine l_mv ?_
 refine l_ex ?_
 refine l_ex ?_
 refine l_ex ?_
 refine e_alloc 9 [.is (.int .i64 0), .is (.string ⟨#[]⟩), .is (.int .i64 0), .is (.int .i64 0), .is (.int .i64 0)] rfl rfl rfl rfl zr_97 (fun w D M V => ⟨rfl, fun j x v h1 h2 => cfit_is _ h1 h2 rfl⟩) rfl rfl rfl rfl ?_
 refine e_storew rfl rfl rfl (kn rfl) rfl (kn rfl) rfl rfl sz_97 ?_
 refine l_as ?_
 refine e_storew rfl rfl rfl (kn rfl) rfl (kn rfl) rfl rfl sz_102 ?_
 refine e_nil ?_
 try refine e_fl ?_
 refine e_plain (w_op rfl rfl rfl (s_faddr_box rfl (kn rfl) off_102_1) (w_op rfl rfl rfl (s_load1_box rfl (kn rfl) rfl rfl one_3) (w_op rfl rfl rfl (s_bin rfl (kn rfl) (kn rfl) v_neq) .nil))) ?_
 try refine e_fl ?_
 refine e_cond rfl (fun h => ?_) (fun h => ?_)
 ·obtain ⟨hb, he⟩ := hr.bad h
  try refine e_fl ?_
  refine e_draw_mix [(4, _), (6, _)] mixed (by kernel_rfl) (WalkM.op rfl rfl rfl (s_loadn_box (ds := [_, _, _, _, _, _, _, _, _, _]) 10 rfl (kn rfl) rfl rfl agg_112 sz_112 rfl) (WalkM.op rfl rfl rfl (s_move rfl (kn rfl)) (WalkM.op rfl rfl rfl (s_loadn_box (ds := [_, _]) 2 rfl (kn rfl) rfl rfl agg_102 sz_102 rfl) (WalkM.stw rfl rfl rfl (kn rfl) rfl rfl (kn rfl) rfl rfl rfl sz_112 (WalkM.op rfl rfl rfl (s_assign rfl (kn rfl)) (WalkM.stw rfl rfl rfl (kn rfl) rfl rfl (kn rfl) rfl rfl rfl sz_102 (WalkM.nil))))))) rfl ?_
  try refine e_fl ?_
  exact e_return rfl rfl (.cell rfl rfl rfl agg_112 sz_112 rfl (.tmp (kn rfl) (.cell rfl rfl rfl agg_102 sz_102 rfl (.nil)))) (Imp.refl _) (⟨fld0 4 0, r, a, b, rfl, .ill hb (by simp only [sMapped, h1, he])⟩)
 obtain ⟨rfl, rfl, h2⟩ := hr.ok h
 try refine e_fl ?_
 have g2 := sName_ok h2
 refine e_list ?_
 refine l_op (s_faddr_box rfl (kn rfl) off_97_1) ?_
 refine l_op (s_load1_box rfl (kn rfl) rfl rfl one_9) ?_
 refine l_op (s_faddr_box rfl (kn rfl) off_112_2) ?_
 refine e_store1 rfl rfl rfl (kn rfl) rfl (kn rfl) rfl rfl sz_9 rfl ?_
 refine e_nil ?_
 try refine e_fl ?_
 refine e_list ?_
 refine l_mv ?_
 refine l_mv ?_
 refine l_op (s_buildSlice (ds := [_]) [(0, _)] rfl ⟨rfl, (kn rfl), trivial⟩ rfl sl_49 sz_9 zr_9 (fun w D => .cons (.cell _) (.nil _ _)) rfl rfl rfl rfl rfl) ?_
 refine e_list_call rfl rfl rfl rfl (by kernel_rfl) (want1 l hl 4 [44] rfl (by simp) r (by omega)) ⟨(kn rfl), ⟨(kn rfl), ⟨(kn rfl), trivial⟩⟩⟩ ?_
 rintro _ ⟨s, a, b, rfl, hr⟩
 refine l_mv ?_
 refine l_ex ?_
 refine l_ex ?_
 refine l_as ?_
 refine e_storew rfl rfl rfl (kn rfl) rfl (kn rfl) rfl rfl sz_102 ?_
 refine e_nil ?_
 try refine e_fl ?_
 refine e_plain (w_op rfl rfl rfl (s_faddr_box rfl (kn rfl) off_102_1) (w_op rfl rfl rfl (s_load1_box rfl (kn rfl) rfl rfl one_3) (w_op rfl rfl rfl (s_bin rfl (kn rfl) (kn rfl) v_neq) .nil))) ?_
 try refine e_fl ?_
 refine e_cond rfl (fun h => ?_) (fun h => ?_)
 ·obtain ⟨hb, he⟩ := hr.bad h
  try refine e_fl ?_
  refine e_draw_mix [(4, _), (6, _)] mixed (by kernel_rfl) (WalkM.op rfl rfl rfl (s_loadn_box (ds := [_, _, _, _, _, _, _, _, _, _]) 10 rfl (kn rfl) rfl rfl agg_112 sz_112 rfl) (WalkM.op rfl rfl rfl (s_move rfl (kn rfl)) (WalkM.op rfl rfl rfl (s_loadn_box (ds := [_, _]) 2 rfl (kn rfl) rfl rfl agg_102 sz_102 rfl) (WalkM.stw rfl rfl rfl (kn rfl) rfl rfl (kn rfl) rfl rfl rfl sz_112 (WalkM.op rfl rfl rfl (s_assign rfl (kn rfl)) (WalkM.stw rfl rfl rfl (kn rfl) rfl rfl (kn rfl) rfl rfl rfl sz_102 (WalkM.nil))))))) rfl ?_
  try refine e_fl ?_
  exact e_return rfl rfl (.cell rfl rfl rfl agg_112 sz_112 rfl (.tmp (kn rfl) (.cell rfl rfl rfl agg_102 sz_102 rfl (.nil)))) (Imp.refl _) (⟨{ fld0 4 0 with mapKey := x.1.t }, s, a, b, rfl, .ill hb (by simp only [sMapped, h1, h2, he])⟩)
 obtain ⟨rfl, rfl, h3⟩ := hr.ok h
 try refine e_fl ?_
 have g3 := sWant_ok h3
 refine e_list ?_
 refine l_mv ?_
 refine l_mv ?_
 refine e_list_call rfl rfl rfl rfl (by kernel_rfl) (dotted_y l hl s (by omega) true) ⟨(kn rfl), ⟨(kn rfl), ⟨(kn rfl), trivial⟩⟩⟩ ?_
 rintro _ ⟨t, u, a, b, rfl, hr⟩
 refine l_mv ?_
 refine l_ex ?_
 refine l_ex ?_
 refine l_ex ?_
 refine l_op (s_faddr_box rfl (kn rfl) off_112_1) ?_
 refine e_store1 rfl rfl rfl (kn rfl) rfl (kn rfl) rfl rfl sz_9 rfl ?_
 refine l_as ?_
 refine e_storew rfl rfl rfl (kn rfl) rfl (kn rfl) rfl rfl sz_102 ?_
 refine e_nil ?_
 try refine e_fl ?_
 refine e_plain (w_op rfl rfl rfl (s_faddr_box rfl (kn rfl) off_102_1) (w_op rfl rfl rfl (s_load1_box rfl (kn rfl) rfl rfl one_3) (w_op rfl rfl rfl (s_bin rfl (kn rfl) (kn rfl) v_neq) .nil))) ?_
 try refine e_fl ?_
 refine e_cond rfl (fun h => ?_) (fun h => ?_)
 ·obtain ⟨hb, he⟩ := hr.bad h
  try refine e_fl ?_
  refine e_draw_mix [(4, _), (6, _)] mixed (by kernel_rfl) (WalkM.op rfl rfl rfl (s_loadn_box (ds := [_, _, _, _, _, _, _, _, _, _]) 10 rfl (kn rfl) rfl rfl agg_112 sz_112 rfl) (WalkM.op rfl rfl rfl (s_move rfl (kn rfl)) (WalkM.op rfl rfl rfl (s_loadn_box (ds := [_, _]) 2 rfl (kn rfl) rfl rfl agg_102 sz_102 rfl) (WalkM.stw rfl rfl rfl (kn rfl) rfl rfl (kn rfl) rfl rfl rfl sz_112 (WalkM.op rfl rfl rfl (s_assign rfl (kn rfl)) (WalkM.stw rfl rfl rfl (kn rfl) rfl rfl (kn rfl) rfl rfl rfl sz_102 (WalkM.nil))))))) rfl ?_
  try refine e_fl ?_
  exact e_return rfl rfl (.cell rfl rfl rfl agg_112 sz_112 rfl (.tmp (kn rfl) (.cell rfl rfl rfl agg_102 sz_102 rfl (.nil)))) (Imp.refl _) (⟨{ fld0 4 0 with mapKey := x.1.t, type := t }, u, a, b, rfl, .ill hb (by simp only [sMapped, h1, h2, h3, he])⟩)
 obtain ⟨rfl, rfl, h4⟩ := hr.ok h
 try refine e_fl ?_
 have g4 := sDotted_ok h4
 refine e_list ?_
 refine l_mv ?_
 refine l_mv ?_
 refine l_op (s_buildSlice (ds := [_]) [(0, _)] rfl ⟨rfl, (kn rfl), trivial⟩ rfl sl_49 sz_9 zr_9 (fun w D => .cons (.cell _) (.nil _ _)) rfl rfl rfl rfl rfl) ?_
 refine e_list_call rfl rfl rfl rfl (by kernel_rfl) (want1 l hl 4 [62] rfl (by simp) u (by omega)) ⟨(kn rfl), ⟨(kn rfl), ⟨(kn rfl), trivial⟩⟩⟩ ?_
 rintro _ ⟨v, a, b, rfl, hr⟩
 refine l_mv ?_
 refine l_ex ?_
 refine l_ex ?_
 refine l_as ?_
 refine e_storew rfl rfl rfl (kn rfl) rfl (kn rfl) rfl rfl sz_102 ?_
 refine e_nil ?_
 try refine e_fl ?_
 refine e_plain (w_op rfl rfl rfl (s_faddr_box rfl (kn rfl) off_102_1) (w_op rfl rfl rfl (s_load1_box rfl (kn rfl) rfl rfl one_3) (w_op rfl rfl rfl (s_bin rfl (kn rfl) (kn rfl) v_neq) .nil))) ?_
 try refine e_fl ?_
 refine e_cond rfl (fun h => ?_) (fun h => ?_)
 ·obtain ⟨hb, he⟩ := hr.bad h
  try refine e_fl ?_
  refine e_draw_mix [(4, _), (6, _)] mixed (by kernel_rfl) (WalkM.op rfl rfl rfl (s_loadn_box (ds := [_, _, _, _, _, _, _, _, _, _]) 10 rfl (kn rfl) rfl rfl agg_112 sz_112 rfl) (WalkM.op rfl rfl rfl (s_move rfl (kn rfl)) (WalkM.op rfl rfl rfl (s_loadn_box (ds := [_, _]) 2 rfl (kn rfl) rfl rfl agg_102 sz_102 rfl) (WalkM.stw rfl rfl rfl (kn rfl) rfl rfl (kn rfl) rfl rfl rfl sz_112 (WalkM.op rfl rfl rfl (s_assign rfl (kn rfl)) (WalkM.stw rfl rfl rfl (kn rfl) rfl rfl (kn rfl) rfl rfl rfl sz_102 (WalkM.nil))))))) rfl ?_
  try refine e_fl ?_
  exact e_return rfl rfl (.cell rfl rfl rfl agg_112 sz_112 rfl (.tmp (kn rfl) (.cell rfl rfl rfl agg_102 sz_102 rfl (.nil)))) (Imp.refl _) (⟨{ fld0 4 0 with mapKey := x.1.t, type := t }, v, a, b, rfl, .ill hb (by simp only [sMapped, h1, h2, h3, h4, he])⟩)
 obtain ⟨rfl, rfl, h5⟩ := hr.ok h
 try refine e_fl ?_
 have g5 := sWant_ok h5
 have hw : sMapped l p = sRest l { fld0 4 0 with mapKey := x.1.t, type := t } v := by simp only [sMapped, h1, h2, h3, h4, h5]
 refine e_list ?_
 refine l_mv ?_
 refine l_op (s_loadn_box (ds := [_, _, _, _, _, _, _, _, _, _]) 10 rfl (kn rfl) rfl rfl agg_112 sz_112 rfl) ?_
 refine l_mv ?_
 refine e_list_call rfl rfl rfl rfl (by kernel_rfl) (rest_y l hl { fld0 4 0 with mapKey := x.1.t, type := t } v (by omega)) ⟨(kn rfl), ⟨(kn rfl), ⟨(kn rfl), trivial⟩⟩⟩ ?_
 rintro _ ⟨g, u, a, b, rfl, hr⟩
 refine l_ex ?_
 refine l_ex ?_
 refine l_ex ?_
 refine e_storew rfl rfl rfl (kn rfl) rfl (kn rfl) rfl rfl sz_112 ?_
 refine l_as ?_
 refine e_storew rfl rfl rfl (kn rfl) rfl (kn rfl) rfl rfl sz_102 ?_
 refine e_nil ?_
 try refine e_fl ?_
 exact e_return rfl rfl (.cell rfl rfl rfl agg_112 sz_112 rfl (.tmp (kn rfl) (.cell rfl rfl rfl agg_102 sz_102 rfl (.nil)))) (Imp.refl _) (⟨g, u, a, b, rfl, hw ▸ hr⟩)
end Go.Proofs.YtfcjeciepadmeaaGreatDoor
