/- Part 13 of what the last text of this claim is proved by: walks over the program, and the math behind them. Conditions: as each theorem says. -/
import Derived.Test.YtfcjeciepadmeaaGreatDoorTx12
import Derived.Test.YtfcjeciepadmeaaGreatDoorProg
namespace Go.Proofs.YtfcjeciepadmeaaGreatDoor
open Go.RowKit
theorem Res.next {β γ : Type} {r : Ans8 β} {R : Ans8 γ} {v : β} {u : γ} {a b : Nat} (hr : Res r v a b) (hok : r = .ok v → R = .ok u) (her : r = .error (a, b) → R = .error (a, b)) : Res R u a b := by
 rcases hr with ⟨h1, h2, h3⟩ | ⟨h1, h3⟩
 ·exact .inl ⟨h1, h2, hok h3⟩
 ·exact .inr ⟨h1, her h3⟩
abbrev fQ (f : Fld) : List Part := [.many f.dats]
set_option maxRecDepth 100000 in
set_option maxHeartbeats 4000000 in
theorem options_y (l : List Tk) (hl : TksOk l) (f0 : Fld) (p : Nat) (hp : p ≤ 100000) : EFx Tryz.prog [] 127 [tksP l, .many f0.dats, iP p] (RY fQ (sOptions l f0 p)) := by
 refine ef_enter 132 Tryz.func127 rfl rfl rfl fun w D => ?_
 try refine e_fl ?_
 have hll := hl.len
 refine e_list ?_
 refine e_box 4 rfl rfl rfl rfl (kn rfl) rfl rfl rfl rfl ?_
 refine e_alloc 6 [.is (.string ⟨#[]⟩), .is (.string ⟨#[]⟩), .is (.string ⟨#[]⟩), .is (.string ⟨#[]⟩), .is (.int .i64 0), .is (.int .i64 0), .is (.int .i64 0), .is (.int .i64 0), .is (.int .i64 0), .is (.int .i64 0)] rfl rfl rfl rfl zr_112 (fun w D M V => ⟨rfl, fun j x v h1 h2 => cfit_is _ h1 h2 rfl⟩) rfl rfl rfl rfl ?_
 refine l_as ?_
 refine e_alloc 8 [.is (.int .i64 0), .is (.int .i64 0)] rfl rfl rfl rfl zr_102 (fun w D M V => ⟨rfl, fun j x v h1 h2 => cfit_is _ h1 h2 rfl⟩) rfl rfl rfl rfl ?_
 refine e_nil ?_
 try refine e_fl ?_
 refine e_plain (w_mv rfl rfl rfl rfl rfl (w_mv rfl rfl rfl rfl rfl (w_op rfl rfl rfl (s_call rfl (by kernel_rfl) (is_ef l p 4 [91]) ⟨(kn rfl), ⟨(kn rfl), ⟨(kn rfl), ⟨(kn rfl), trivial⟩⟩⟩⟩) .nil))) ?_
 try refine e_fl ?_
 refine e_cond rfl (fun h => ?_) (fun h => ?_)
 ·have hlt := tkIs_lt h
  try refine e_fl ?_
  refine e_loop (ι := { i : Nat × Fld × Nat // 1 ≤ i.1 ∧ l.length + 1 ≤ i.1 + i.2.2 ∧ i.2.2 < l.length ∧ sOptions l f0 p = sOpts l i.1 i.2.1 i.2.2 })
   (fun i => [(0, .part (tksP l)), (2, .is (.int .i64 (i.1.2.2 : Int))), (4, .box 4 0), (6, .box 6 0), (7, .is (.int .i64 0)), (8, .box 8 0)])
   (fun i => [(4, ⟨112, bcs i.1.2.1.dats⟩), (6, ⟨112, bcs (Fld.dats ⟨[], [], [], [], 0, 0, 0, 0, 0, 0⟩)⟩), (8, ⟨102, [.is (.int .i64 0), .is (.int .i64 0)]⟩)])
   (fun _ => [])
   (fun i => i.1.1) ⟨(l.length + 1, f0, p), by omega, by dsimp only; omega, hlt, by unfold sOptions; rw [if_pos h]⟩
   (fun K => e_sub ⟨s_t, s_t, s_t, s_t, s_t, s_t, trivial⟩ ⟨s_b, s_b, s_b, trivial⟩ trivial) ?_
  rintro ⟨⟨n', f, q⟩, hn1, hn, hq, hw⟩
  dsimp only at hn1 hn hq hw ⊢
  obtain ⟨n, rfl⟩ : ∃ n, n' = n + 1 := ⟨n' - 1, by omega⟩
  rw [sOpts, sOption] at hw
  try refine e_fl ?_
  refine e_plain (w_mv rfl rfl rfl rfl rfl (w_op rfl rfl rfl (s_bin rfl (kn rfl) (kn rfl) (v_add64 (by first | omega | (dsimp only; omega) | omega))) (w_as rfl rfl rfl rfl rfl .nil))) ?_
  try refine e_fl ?_
  refine e_plain (w_mv rfl rfl rfl rfl rfl (w_mv rfl rfl rfl rfl rfl (w_op rfl rfl rfl (s_call rfl (by kernel_rfl) (is_ef l (q + 1) 1 [112, 97, 99, 107, 101, 100]) ⟨(kn rfl), ⟨(kn rfl), ⟨(kn rfl), ⟨(kn rfl), trivial⟩⟩⟩⟩) (w_mv rfl rfl rfl rfl rfl (Walk.gd _ rfl rfl rfl (fun h => s_faddr_box rfl (kn rfl) off_112_6) (Walk.gd _ rfl rfl rfl (fun h => s_load1_box rfl (kn_opt rfl h) rfl rfl one_3) (Walk.gd _ rfl rfl rfl (fun h => s_bin rfl (kn_opt rfl h) (kn rfl) v_eql) (w_op rfl rfl rfl (s_and rfl (kn rfl) (fun hb => kn_opt rfl hb)) .nil)))))))) ?_
  try refine e_fl ?_
  refine e_cond rfl (fun h1 => ?_) (fun h1 => ?_)
  ·have hlt1 : q + 1 < l.length := tkIs_lt (Bool.and_eq_true _ _ ▸ h1).1
   rw [if_pos h1] at hw
   try refine e_fl ?_
   refine e_list ?_
   refine l_mv ?_
   refine l_mv ?_
   refine l_op (s_bin rfl (kn rfl) (kn rfl) (v_add64 (by first | omega | (dsimp only; omega) | omega))) ?_
   refine l_op (s_buildSlice (ds := [_]) [(0, _)] rfl ⟨rfl, (kn rfl), trivial⟩ rfl sl_49 sz_9 zr_9 (fun w D => .cons (.cell _) (.nil _ _)) rfl rfl rfl rfl rfl) ?_
   refine e_list_call rfl rfl rfl rfl (by kernel_rfl) (want1 l hl 4 [61] rfl (by simp) (q + 1 + 1) (by omega)) ⟨(kn rfl), ⟨(kn rfl), ⟨(kn rfl), trivial⟩⟩⟩ ?_
   rintro _ ⟨r, a, b, rfl, hr⟩
   refine l_mv ?_
   refine l_ex ?_
   refine l_ex ?_
   refine e_alloc 10 [.is (.int .i64 0), .is (.int .i64 0)] rfl rfl rfl rfl zr_102 (fun w D M V => ⟨rfl, fun j x v h1 h2 => cfit_is _ h1 h2 rfl⟩) rfl rfl rfl rfl ?_
   refine l_as ?_
   refine e_storew rfl rfl rfl (kn rfl) rfl (kn rfl) rfl rfl sz_102 ?_
   refine e_nil ?_
   try refine e_fl ?_
   refine e_plain (w_op rfl rfl rfl (s_faddr_box rfl (kn rfl) off_102_1) (w_op rfl rfl rfl (s_load1_box rfl (kn rfl) rfl rfl one_3) (w_op rfl rfl rfl (s_bin rfl (kn rfl) (kn rfl) v_neq) .nil))) ?_
   try refine e_fl ?_
   refine e_cond rfl (fun h => ?_) (fun h => ?_)
   ·obtain ⟨hb, he⟩ := hr.bad h
    try refine e_fl ?_
    refine e_draw_mix [(6, _), (8, _)] mixed (by kernel_rfl) (WalkM.op rfl rfl rfl (s_loadn_box (ds := [_, _, _, _, _, _, _, _, _, _]) 10 rfl (kn rfl) rfl rfl agg_112 sz_112 rfl) (WalkM.op rfl rfl rfl (s_move rfl (kn rfl)) (WalkM.op rfl rfl rfl (s_loadn_box (ds := [_, _]) 2 rfl (kn rfl) rfl rfl agg_102 sz_102 rfl) (WalkM.stw rfl rfl rfl (kn rfl) rfl rfl (kn rfl) rfl rfl rfl sz_112 (WalkM.op rfl rfl rfl (s_assign rfl (kn rfl)) (WalkM.stw rfl rfl rfl (kn rfl) rfl rfl (kn rfl) rfl rfl rfl sz_102 (WalkM.nil))))))) rfl ?_
    try refine e_fl ?_
    exact e_return rfl rfl (.cell rfl rfl rfl agg_112 sz_112 rfl (.tmp (kn rfl) (.cell rfl rfl rfl agg_102 sz_102 rfl (.nil)))) (Imp.refl _) (⟨f, q + 1, a, b, rfl, .ill hb (by simp only [hw, he])⟩)
   obtain ⟨rfl, rfl, ho⟩ := hr.ok h
   try refine e_fl ?_
   have ho1 := sWant_ok ho
   simp only [ho] at hw
   refine e_plain (w_mv rfl rfl rfl rfl rfl (w_mv rfl rfl rfl rfl rfl (w_op rfl rfl rfl (s_call rfl (by kernel_rfl) (is_ef l r 1 [116, 114, 117, 101]) ⟨(kn rfl), ⟨(kn rfl), ⟨(kn rfl), ⟨(kn rfl), trivial⟩⟩⟩⟩) (w_as rfl rfl rfl rfl rfl .nil)))) ?_
   try refine e_fl ?_
   refine e_cond rfl (fun h2 => ?_) (fun h2 => ?_)
   ·have hlt2 := tkIs_lt h2
    rw [if_pos h2] at hw
    dsimp only at hw
    try refine e_fl ?_
    refine e_list ?_
    refine l_op (s_faddr_box rfl (kn rfl) off_112_6) ?_
    refine e_store1 rfl rfl rfl (kn rfl) rfl (kn rfl) rfl rfl sz_3 rfl ?_
    refine e_nil ?_
    try refine e_fl ?_
    refine e_plain (w_mv rfl rfl rfl rfl rfl (w_op rfl rfl rfl (s_bin rfl (kn rfl) (kn rfl) (v_add64 (by first | omega | (dsimp only; omega) | omega))) (w_as rfl rfl rfl rfl rfl .nil))) ?_
    try refine e_fl ?_
    refine e_plain (w_mv rfl rfl rfl rfl rfl (w_mv rfl rfl rfl rfl rfl (w_op rfl rfl rfl (s_call rfl (by kernel_rfl) (is_ef l (r + 1) 4 [44]) ⟨(kn rfl), ⟨(kn rfl), ⟨(kn rfl), ⟨(kn rfl), trivial⟩⟩⟩⟩) (w_op rfl rfl rfl (s_not rfl (kn rfl)) .nil)))) ?_
    try refine e_fl ?_
    refine e_cond rfl (fun h => ?_) (fun h => ?_)
    ·rw [if_neg (by rw [not_t h]; decide)] at hw
     try refine e_fl ?_
     refine e_list ?_
     refine l_mv ?_
     refine l_mv ?_
     refine l_op (s_buildSlice (ds := [_]) [(0, _)] rfl ⟨rfl, (kn rfl), trivial⟩ rfl sl_49 sz_9 zr_9 (fun w D => .cons (.cell _) (.nil _ _)) rfl rfl rfl rfl rfl) ?_
     refine e_list_call rfl rfl rfl rfl (by kernel_rfl) (want1 l hl 4 [93] rfl (by simp) (r + 1) (by omega)) ⟨(kn rfl), ⟨(kn rfl), ⟨(kn rfl), trivial⟩⟩⟩ ?_
     rintro _ ⟨u, a, b, rfl, hr⟩
     refine l_mv ?_
     refine l_ex ?_
     refine l_ex ?_
     refine e_alloc 15 [.is (.int .i64 0), .is (.int .i64 0)] rfl rfl rfl rfl zr_102 (fun w D M V => ⟨rfl, fun j x v h1 h2 => cfit_is _ h1 h2 rfl⟩) rfl rfl rfl rfl ?_
     refine l_as ?_
     refine e_storew rfl rfl rfl (kn rfl) rfl (kn rfl) rfl rfl sz_102 ?_
     refine e_nil ?_
     try refine e_fl ?_
     refine e_plain (w_op rfl rfl rfl (s_faddr_box rfl (kn rfl) off_102_1) (w_op rfl rfl rfl (s_load1_box rfl (kn rfl) rfl rfl one_3) (w_op rfl rfl rfl (s_bin rfl (kn rfl) (kn rfl) v_neq) .nil))) ?_
     try refine e_fl ?_
     refine e_cond rfl (fun h => ?_) (fun h => ?_)
     ·obtain ⟨hb, he⟩ := hr.bad h
      try refine e_fl ?_
      refine e_draw_mix [(6, _), (8, _)] mixed (by kernel_rfl) (WalkM.op rfl rfl rfl (s_loadn_box (ds := [_, _, _, _, _, _, _, _, _, _]) 10 rfl (kn rfl) rfl rfl agg_112 sz_112 rfl) (WalkM.op rfl rfl rfl (s_move rfl (kn rfl)) (WalkM.op rfl rfl rfl (s_loadn_box (ds := [_, _]) 2 rfl (kn rfl) rfl rfl agg_102 sz_102 rfl) (WalkM.stw rfl rfl rfl (kn rfl) rfl rfl (kn rfl) rfl rfl rfl sz_112 (WalkM.op rfl rfl rfl (s_assign rfl (kn rfl)) (WalkM.stw rfl rfl rfl (kn rfl) rfl rfl (kn rfl) rfl rfl rfl sz_102 (WalkM.nil))))))) rfl ?_
      try refine e_fl ?_
      exact e_return rfl rfl (.cell rfl rfl rfl agg_112 sz_112 rfl (.tmp (kn rfl) (.cell rfl rfl rfl agg_102 sz_102 rfl (.nil)))) (Imp.refl _) (⟨{ f with packed := 1 }, r + 1, a, b, rfl, .ill hb (by simp only [hw, he])⟩)
     obtain ⟨rfl, rfl, hu⟩ := hr.ok h
     try refine e_fl ?_
     have hu1 := sWant_ok hu
     simp only [hu] at hw
     refine e_plain (w_mv rfl rfl rfl rfl rfl (w_as rfl rfl rfl rfl rfl .nil)) ?_
     try refine e_fl ?_
     refine e_list ?_
     refine l_mv ?_
     refine l_mv ?_
     refine l_op (s_buildSlice (ds := [_]) [(0, _)] rfl ⟨rfl, (kn rfl), trivial⟩ rfl sl_49 sz_9 zr_9 (fun w D => .cons (.cell _) (.nil _ _)) rfl rfl rfl rfl rfl) ?_
     refine e_list_call rfl rfl rfl rfl (by kernel_rfl) (want1 l hl 4 [59] rfl (by simp) (u) (by omega)) ⟨(kn rfl), ⟨(kn rfl), ⟨(kn rfl), trivial⟩⟩⟩ ?_
     rintro _ ⟨z, a, b, rfl, hr⟩
     refine l_mv ?_
     refine l_ex ?_
     refine l_ex ?_
     refine e_alloc 16 [.is (.int .i64 0), .is (.int .i64 0)] rfl rfl rfl rfl zr_102 (fun w D M V => ⟨rfl, fun j x v h1 h2 => cfit_is _ h1 h2 rfl⟩) rfl rfl rfl rfl ?_
     refine l_as ?_
     refine e_storew rfl rfl rfl (kn rfl) rfl (kn rfl) rfl rfl sz_102 ?_
     refine e_nil ?_
     try refine e_fl ?_
     refine e_draw_mix [(6, _), (8, _)] mixed (by kernel_rfl) (WalkM.op rfl rfl rfl (s_loadn_box (ds := [_, _, _, _, _, _, _, _, _, _]) 10 rfl (kn rfl) rfl rfl agg_112 sz_112 rfl) (WalkM.op rfl rfl rfl (s_move rfl (kn rfl)) (WalkM.op rfl rfl rfl (s_loadn_box (ds := [_, _]) 2 rfl (kn rfl) rfl rfl agg_102 sz_102 rfl) (WalkM.stw rfl rfl rfl (kn rfl) rfl rfl (kn rfl) rfl rfl rfl sz_112 (WalkM.op rfl rfl rfl (s_assign rfl (kn rfl)) (WalkM.stw rfl rfl rfl (kn rfl) rfl rfl (kn rfl) rfl rfl rfl sz_102 (WalkM.nil))))))) rfl ?_
     try refine e_fl ?_
     exact e_return rfl rfl (.cell rfl rfl rfl agg_112 sz_112 rfl (.tmp (kn rfl) (.cell rfl rfl rfl agg_102 sz_102 rfl (.nil)))) (Imp.refl _) (⟨{ f with packed := 1 }, z, a, b, rfl, hr.next (fun h => by simp only [hw, h]) (fun h => by simp only [hw, h])⟩)
    ·rw [if_pos (not_f h)] at hw
     have hlt := tkIs_lt (not_f h)
     try refine e_fl ?_
     refine e_again ⟨(n, { f with packed := 1 }, r + 1), by omega, by dsimp only; omega, by dsimp only; omega, hw⟩ (by dsimp only; omega) (fun K => e_sub ⟨s_t, s_t, s_t, s_t, s_t, s_t, trivial⟩ ⟨s_b, s_b, s_b, trivial⟩ trivial)
   ·rw [if_neg (by rw [h2]; decide)] at hw
    try refine e_fl ?_
    refine e_plain (w_mv rfl rfl rfl rfl rfl (w_mv rfl rfl rfl rfl rfl (w_op rfl rfl rfl (s_call rfl (by kernel_rfl) (is_ef l r 1 [102, 97, 108, 115, 101]) ⟨(kn rfl), ⟨(kn rfl), ⟨(kn rfl), ⟨(kn rfl), trivial⟩⟩⟩⟩) (w_as rfl rfl rfl rfl rfl .nil)))) ?_
    try refine e_fl ?_
    refine e_cond rfl (fun h3 => ?_) (fun h3 => ?_)
    ·have hlt2 := tkIs_lt h3
     rw [if_pos h3] at hw
     dsimp only at hw
     try refine e_fl ?_
     refine e_list ?_
     refine l_op (s_faddr_box rfl (kn rfl) off_112_6) ?_
     refine e_store1 rfl rfl rfl (kn rfl) rfl (kn rfl) rfl rfl sz_3 rfl ?_
     refine e_nil ?_
     try refine e_fl ?_
     refine e_plain (w_mv rfl rfl rfl rfl rfl (w_op rfl rfl rfl (s_bin rfl (kn rfl) (kn rfl) (v_add64 (by first | omega | (dsimp only; omega) | omega))) (w_as rfl rfl rfl rfl rfl .nil))) ?_
     try refine e_fl ?_
     refine e_plain (w_mv rfl rfl rfl rfl rfl (w_mv rfl rfl rfl rfl rfl (w_op rfl rfl rfl (s_call rfl (by kernel_rfl) (is_ef l (r + 1) 4 [44]) ⟨(kn rfl), ⟨(kn rfl), ⟨(kn rfl), ⟨(kn rfl), trivial⟩⟩⟩⟩) (w_op rfl rfl rfl (s_not rfl (kn rfl)) .nil)))) ?_
     try refine e_fl ?_
     refine e_cond rfl (fun h => ?_) (fun h => ?_)
     ·rw [if_neg (by rw [not_t h]; decide)] at hw
      try refine e_fl ?_
      refine e_list ?_
      refine l_mv ?_
      refine l_mv ?_
      refine l_op (s_buildSlice (ds := [_]) [(0, _)] rfl ⟨rfl, (kn rfl), trivial⟩ rfl sl_49 sz_9 zr_9 (fun w D => .cons (.cell _) (.nil _ _)) rfl rfl rfl rfl rfl) ?_
      refine e_list_call rfl rfl rfl rfl (by kernel_rfl) (want1 l hl 4 [93] rfl (by simp) (r + 1) (by omega)) ⟨(kn rfl), ⟨(kn rfl), ⟨(kn rfl), trivial⟩⟩⟩ ?_
      rintro _ ⟨u, a, b, rfl, hr⟩
      refine l_mv ?_
      refine l_ex ?_
      refine l_ex ?_
      refine e_alloc 15 [.is (.int .i64 0), .is (.int .i64 0)] rfl rfl rfl rfl zr_102 (fun w D M V => ⟨rfl, fun j x v h1 h2 => cfit_is _ h1 h2 rfl⟩) rfl rfl rfl rfl ?_
      refine l_as ?_
      refine e_storew rfl rfl rfl (kn rfl) rfl (kn rfl) rfl rfl sz_102 ?_
      refine e_nil ?_
      try refine e_fl ?_
      refine e_plain (w_op rfl rfl rfl (s_faddr_box rfl (kn rfl) off_102_1) (w_op rfl rfl rfl (s_load1_box rfl (kn rfl) rfl rfl one_3) (w_op rfl rfl rfl (s_bin rfl (kn rfl) (kn rfl) v_neq) .nil))) ?_
      try refine e_fl ?_
      refine e_cond rfl (fun h => ?_) (fun h => ?_)
      ·obtain ⟨hb, he⟩ := hr.bad h
       try refine e_fl ?_
       refine e_draw_mix [(6, _), (8, _)] mixed (by kernel_rfl) (WalkM.op rfl rfl rfl (s_loadn_box (ds := [_, _, _, _, _, _, _, _, _, _]) 10 rfl (kn rfl) rfl rfl agg_112 sz_112 rfl) (WalkM.op rfl rfl rfl (s_move rfl (kn rfl)) (WalkM.op rfl rfl rfl (s_loadn_box (ds := [_, _]) 2 rfl (kn rfl) rfl rfl agg_102 sz_102 rfl) (WalkM.stw rfl rfl rfl (kn rfl) rfl rfl (kn rfl) rfl rfl rfl sz_112 (WalkM.op rfl rfl rfl (s_assign rfl (kn rfl)) (WalkM.stw rfl rfl rfl (kn rfl) rfl rfl (kn rfl) rfl rfl rfl sz_102 (WalkM.nil))))))) rfl ?_
       try refine e_fl ?_
       exact e_return rfl rfl (.cell rfl rfl rfl agg_112 sz_112 rfl (.tmp (kn rfl) (.cell rfl rfl rfl agg_102 sz_102 rfl (.nil)))) (Imp.refl _) (⟨{ f with packed := 2 }, r + 1, a, b, rfl, .ill hb (by simp only [hw, he])⟩)
      obtain ⟨rfl, rfl, hu⟩ := hr.ok h
      try refine e_fl ?_
      have hu1 := sWant_ok hu
      simp only [hu] at hw
      refine e_plain (w_mv rfl rfl rfl rfl rfl (w_as rfl rfl rfl rfl rfl .nil)) ?_
      try refine e_fl ?_
      refine e_list ?_
      refine l_mv ?_
      refine l_mv ?_
      refine l_op (s_buildSlice (ds := [_]) [(0, _)] rfl ⟨rfl, (kn rfl), trivial⟩ rfl sl_49 sz_9 zr_9 (fun w D => .cons (.cell _) (.nil _ _)) rfl rfl rfl rfl rfl) ?_
      refine e_list_call rfl rfl rfl rfl (by kernel_rfl) (want1 l hl 4 [59] rfl (by simp) (u) (by omega)) ⟨(kn rfl), ⟨(kn rfl), ⟨(kn rfl), trivial⟩⟩⟩ ?_
      rintro _ ⟨z, a, b, rfl, hr⟩
      refine l_mv ?_
      refine l_ex ?_
      refine l_ex ?_
      refine e_alloc 16 [.is (.int .i64 0), .is (.int .i64 0)] rfl rfl rfl rfl zr_102 (fun w D M V => ⟨rfl, fun j x v h1 h2 => cfit_is _ h1 h2 rfl⟩) rfl rfl rfl rfl ?_
      refine l_as ?_
      refine e_storew rfl rfl rfl (kn rfl) rfl (kn rfl) rfl rfl sz_102 ?_
      refine e_nil ?_
      try refine e_fl ?_
      refine e_draw_mix [(6, _), (8, _)] mixed (by kernel_rfl) (WalkM.op rfl rfl rfl (s_loadn_box (ds := [_, _, _, _, _, _, _, _, _, _]) 10 rfl (kn rfl) rfl rfl agg_112 sz_112 rfl) (WalkM.op rfl rfl rfl (s_move rfl (kn rfl)) (WalkM.op rfl rfl rfl (s_loadn_box (ds := [_, _]) 2 rfl (kn rfl) rfl rfl agg_102 sz_102 rfl) (WalkM.stw rfl rfl rfl (kn rfl) rfl rfl (kn rfl) rfl rfl rfl sz_112 (WalkM.op rfl rfl rfl (s_assign rfl (kn rfl)) (WalkM.stw rfl rfl rfl (kn rfl) rfl rfl (kn rfl) rfl rfl rfl sz_102 (WalkM.nil))))))) rfl ?_
      try refine e_fl ?_
      exact e_return rfl rfl (.cell rfl rfl rfl agg_112 sz_112 rfl (.tmp (kn rfl) (.cell rfl rfl rfl agg_102 sz_102 rfl (.nil)))) (Imp.refl _) (⟨{ f with packed := 2 }, z, a, b, rfl, hr.next (fun h => by simp only [hw, h]) (fun h => by simp only [hw, h])⟩)
     ·rw [if_pos (not_f h)] at hw
      have hlt := tkIs_lt (not_f h)
      try refine e_fl ?_
      refine e_again ⟨(n, { f with packed := 2 }, r + 1), by omega, by dsimp only; omega, by dsimp only; omega, hw⟩ (by dsimp only; omega) (fun K => e_sub ⟨s_t, s_t, s_t, s_t, s_t, s_t, trivial⟩ ⟨s_b, s_b, s_b, trivial⟩ trivial)
    ·rw [if_neg (by rw [h3]; decide)] at hw
     try refine e_fl ?_
     refine e_draw_mix [(6, _), (8, _)] mixed (by kernel_rfl) (WalkM.op rfl rfl rfl (s_loadn_box (ds := [_, _, _, _, _, _, _, _, _, _]) 10 rfl (kn rfl) rfl rfl agg_112 sz_112 rfl) (WalkM.op rfl rfl rfl (s_move rfl (kn rfl)) (WalkM.op rfl rfl rfl (s_move rfl (kn rfl)) (WalkM.op rfl rfl rfl (s_call rfl (by kernel_rfl) (bad_ef r) ⟨(kn rfl), trivial⟩) (WalkM.stw rfl rfl rfl (kn rfl) rfl rfl (kn rfl) rfl rfl rfl sz_112 (WalkM.op rfl rfl rfl (s_assign rfl (kn rfl)) (WalkM.stw rfl rfl rfl (kn rfl) rfl rfl (kn rfl) rfl rfl rfl sz_102 (WalkM.nil)))))))) rfl ?_
     try refine e_fl ?_
     exact e_return rfl rfl (.cell rfl rfl rfl agg_112 sz_112 rfl (.tmp (kn rfl) (.cell rfl rfl rfl agg_102 sz_102 rfl (.nil)))) (Imp.refl _) (⟨f, q + 1, r, 9, rfl, .ill (by decide) hw⟩)
  ·rw [if_neg (by rw [show (tkIs l (q + 1) 1 [112, 97, 99, 107, 101, 100] && decide (f.packed = 0)) = false from h1]; decide)] at hw
   try refine e_fl ?_
   refine e_plain (w_mv rfl rfl rfl rfl rfl (w_mv rfl rfl rfl rfl rfl (w_op rfl rfl rfl (s_call rfl (by kernel_rfl) (is_ef l (q + 1) 1 [107, 101, 121]) ⟨(kn rfl), ⟨(kn rfl), ⟨(kn rfl), ⟨(kn rfl), trivial⟩⟩⟩⟩) (w_mv rfl rfl rfl rfl rfl (Walk.gd _ rfl rfl rfl (fun h => s_faddr_box rfl (kn rfl) off_112_3) (Walk.gd _ rfl rfl rfl (fun h => s_load1_box rfl (kn_opt rfl h) rfl rfl one_9) (Walk.gd _ rfl rfl rfl (fun h => s_slen rfl (kn_opt rfl h) str_9) (Walk.gd _ rfl rfl rfl (fun h => s_bin rfl (kn_opt rfl h) (kn rfl) v_eql) (w_op rfl rfl rfl (s_and rfl (kn rfl) (fun hb => kn_opt rfl hb)) .nil))))))))) ?_
   try refine e_fl ?_
   refine e_cond rfl (fun h1 => ?_) (fun h1 => ?_)
   ·rw [len_nil] at h1
    have hlt1 : q + 1 < l.length := tkIs_lt (Bool.and_eq_true _ _ ▸ h1).1
    rw [if_pos h1] at hw
    try refine e_fl ?_
    refine e_list ?_
    refine l_mv ?_
    refine l_mv ?_
    refine l_op (s_bin rfl (kn rfl) (kn rfl) (v_add64 (by first | omega | (dsimp only; omega) | omega))) ?_
    refine l_op (s_buildSlice (ds := [_]) [(0, _)] rfl ⟨rfl, (kn rfl), trivial⟩ rfl sl_49 sz_9 zr_9 (fun w D => .cons (.cell _) (.nil _ _)) rfl rfl rfl rfl rfl) ?_
    refine e_list_call rfl rfl rfl rfl (by kernel_rfl) (want1 l hl 4 [61] rfl (by simp) (q + 1 + 1) (by omega)) ⟨(kn rfl), ⟨(kn rfl), ⟨(kn rfl), trivial⟩⟩⟩ ?_
    rintro _ ⟨r, a, b, rfl, hr⟩
    refine l_mv ?_
    refine l_ex ?_
    refine l_ex ?_
    refine e_alloc 12 [.is (.int .i64 0), .is (.int .i64 0)] rfl rfl rfl rfl zr_102 (fun w D M V => ⟨rfl, fun j x v h1 h2 => cfit_is _ h1 h2 rfl⟩) rfl rfl rfl rfl ?_
    refine l_as ?_
    refine e_storew rfl rfl rfl (kn rfl) rfl (kn rfl) rfl rfl sz_102 ?_
    refine e_nil ?_
    try refine e_fl ?_
    refine e_plain (w_op rfl rfl rfl (s_faddr_box rfl (kn rfl) off_102_1) (w_op rfl rfl rfl (s_load1_box rfl (kn rfl) rfl rfl one_3) (w_op rfl rfl rfl (s_bin rfl (kn rfl) (kn rfl) v_neq) .nil))) ?_
    try refine e_fl ?_
    refine e_cond rfl (fun h => ?_) (fun h => ?_)
    ·obtain ⟨hb, he⟩ := hr.bad h
     try refine e_fl ?_
     refine e_draw_mix [(6, _), (8, _)] mixed (by kernel_rfl) (WalkM.op rfl rfl rfl (s_loadn_box (ds := [_, _, _, _, _, _, _, _, _, _]) 10 rfl (kn rfl) rfl rfl agg_112 sz_112 rfl) (WalkM.op rfl rfl rfl (s_move rfl (kn rfl)) (WalkM.op rfl rfl rfl (s_loadn_box (ds := [_, _]) 2 rfl (kn rfl) rfl rfl agg_102 sz_102 rfl) (WalkM.stw rfl rfl rfl (kn rfl) rfl rfl (kn rfl) rfl rfl rfl sz_112 (WalkM.op rfl rfl rfl (s_assign rfl (kn rfl)) (WalkM.stw rfl rfl rfl (kn rfl) rfl rfl (kn rfl) rfl rfl rfl sz_102 (WalkM.nil))))))) rfl ?_
     try refine e_fl ?_
     exact e_return rfl rfl (.cell rfl rfl rfl agg_112 sz_112 rfl (.tmp (kn rfl) (.cell rfl rfl rfl agg_102 sz_102 rfl (.nil)))) (Imp.refl _) (⟨f, q + 1, a, b, rfl, .ill hb (by simp only [hw, he])⟩)
    obtain ⟨rfl, rfl, ho⟩ := hr.ok h
    try refine e_fl ?_
    have ho1 := sWant_ok ho
    simp only [ho] at hw
    refine e_list ?_
    refine l_mv ?_
    refine l_mv ?_
    refine e_list_call rfl rfl rfl rfl (by kernel_rfl) (name_y l hl r) ⟨(kn rfl), ⟨(kn rfl), trivial⟩⟩ ?_
    rintro _ ⟨x, s, a, b, rfl, hr⟩
    refine l_mv ?_
    refine l_ex ?_
    refine l_ex ?_
    refine l_ex ?_
    refine e_alloc 13 [.is (.int .i64 0), .is (.string ⟨#[]⟩), .is (.int .i64 0), .is (.int .i64 0), .is (.int .i64 0)] rfl rfl rfl rfl zr_97 (fun w D M V => ⟨rfl, fun j x v h1 h2 => cfit_is _ h1 h2 rfl⟩) rfl rfl rfl rfl ?_
    refine e_storew rfl rfl rfl (kn rfl) rfl (kn rfl) rfl rfl sz_97 ?_
    refine l_as ?_
    refine e_storew rfl rfl rfl (kn rfl) rfl (kn rfl) rfl rfl sz_102 ?_
    refine e_nil ?_
    try refine e_fl ?_
    refine e_plain (w_op rfl rfl rfl (s_faddr_box rfl (kn rfl) off_102_1) (w_op rfl rfl rfl (s_load1_box rfl (kn rfl) rfl rfl one_3) (w_op rfl rfl rfl (s_bin rfl (kn rfl) (kn rfl) v_neq) .nil))) ?_
    try refine e_fl ?_
    refine e_cond rfl (fun h => ?_) (fun h => ?_)
    ·obtain ⟨hb, he⟩ := hr.bad h
     try refine e_fl ?_
     refine e_draw_mix [(6, _), (8, _)] mixed (by kernel_rfl) (WalkM.op rfl rfl rfl (s_loadn_box (ds := [_, _, _, _, _, _, _, _, _, _]) 10 rfl (kn rfl) rfl rfl agg_112 sz_112 rfl) (WalkM.op rfl rfl rfl (s_move rfl (kn rfl)) (WalkM.op rfl rfl rfl (s_loadn_box (ds := [_, _]) 2 rfl (kn rfl) rfl rfl agg_102 sz_102 rfl) (WalkM.stw rfl rfl rfl (kn rfl) rfl rfl (kn rfl) rfl rfl rfl sz_112 (WalkM.op rfl rfl rfl (s_assign rfl (kn rfl)) (WalkM.stw rfl rfl rfl (kn rfl) rfl rfl (kn rfl) rfl rfl rfl sz_102 (WalkM.nil))))))) rfl ?_
     try refine e_fl ?_
     exact e_return rfl rfl (.cell rfl rfl rfl agg_112 sz_112 rfl (.tmp (kn rfl) (.cell rfl rfl rfl agg_102 sz_102 rfl (.nil)))) (Imp.refl _) (⟨f, q + 1, a, b, rfl, .ill hb (by simp only [hw, he])⟩)
    obtain ⟨rfl, rfl, hx⟩ := hr.ok h
    try refine e_fl ?_
    have hx1 := sName_ok hx
    simp only [hx] at hw
    refine e_list ?_
    refine l_op (s_faddr_box rfl (kn rfl) off_97_1) ?_
    refine l_op (s_load1_box rfl (kn rfl) rfl rfl one_9) ?_
    refine l_op (s_faddr_box rfl (kn rfl) off_112_3) ?_
    refine e_store1 rfl rfl rfl (kn rfl) rfl (kn rfl) rfl rfl sz_9 rfl ?_
    refine e_nil ?_
    try refine e_fl ?_
    refine e_plain (w_mv rfl rfl rfl rfl rfl (w_as rfl rfl rfl rfl rfl .nil)) ?_
    try refine e_fl ?_
    refine e_plain (w_mv rfl rfl rfl rfl rfl (w_mv rfl rfl rfl rfl rfl (w_op rfl rfl rfl (s_call rfl (by kernel_rfl) (is_ef l (s) 4 [44]) ⟨(kn rfl), ⟨(kn rfl), ⟨(kn rfl), ⟨(kn rfl), trivial⟩⟩⟩⟩) (w_op rfl rfl rfl (s_not rfl (kn rfl)) .nil)))) ?_
    try refine e_fl ?_
    refine e_cond rfl (fun h => ?_) (fun h => ?_)
    ·rw [if_neg (by rw [not_t h]; decide)] at hw
     try refine e_fl ?_
     refine e_list ?_
     refine l_mv ?_
     refine l_mv ?_
     refine l_op (s_buildSlice (ds := [_]) [(0, _)] rfl ⟨rfl, (kn rfl), trivial⟩ rfl sl_49 sz_9 zr_9 (fun w D => .cons (.cell _) (.nil _ _)) rfl rfl rfl rfl rfl) ?_
     refine e_list_call rfl rfl rfl rfl (by kernel_rfl) (want1 l hl 4 [93] rfl (by simp) (s) (by omega)) ⟨(kn rfl), ⟨(kn rfl), ⟨(kn rfl), trivial⟩⟩⟩ ?_
     rintro _ ⟨u, a, b, rfl, hr⟩
     refine l_mv ?_
     refine l_ex ?_
     refine l_ex ?_
     refine e_alloc 15 [.is (.int .i64 0), .is (.int .i64 0)] rfl rfl rfl rfl zr_102 (fun w D M V => ⟨rfl, fun j x v h1 h2 => cfit_is _ h1 h2 rfl⟩) rfl rfl rfl rfl ?_
     refine l_as ?_
     refine e_storew rfl rfl rfl (kn rfl) rfl (kn rfl) rfl rfl sz_102 ?_
     refine e_nil ?_
     try refine e_fl ?_
     refine e_plain (w_op rfl rfl rfl (s_faddr_box rfl (kn rfl) off_102_1) (w_op rfl rfl rfl (s_load1_box rfl (kn rfl) rfl rfl one_3) (w_op rfl rfl rfl (s_bin rfl (kn rfl) (kn rfl) v_neq) .nil))) ?_
     try refine e_fl ?_
     refine e_cond rfl (fun h => ?_) (fun h => ?_)
     ·obtain ⟨hb, he⟩ := hr.bad h
      try refine e_fl ?_
      refine e_draw_mix [(6, _), (8, _)] mixed (by kernel_rfl) (WalkM.op rfl rfl rfl (s_loadn_box (ds := [_, _, _, _, _, _, _, _, _, _]) 10 rfl (kn rfl) rfl rfl agg_112 sz_112 rfl) (WalkM.op rfl rfl rfl (s_move rfl (kn rfl)) (WalkM.op rfl rfl rfl (s_loadn_box (ds := [_, _]) 2 rfl (kn rfl) rfl rfl agg_102 sz_102 rfl) (WalkM.stw rfl rfl rfl (kn rfl) rfl rfl (kn rfl) rfl rfl rfl sz_112 (WalkM.op rfl rfl rfl (s_assign rfl (kn rfl)) (WalkM.stw rfl rfl rfl (kn rfl) rfl rfl (kn rfl) rfl rfl rfl sz_102 (WalkM.nil))))))) rfl ?_
      try refine e_fl ?_
      exact e_return rfl rfl (.cell rfl rfl rfl agg_112 sz_112 rfl (.tmp (kn rfl) (.cell rfl rfl rfl agg_102 sz_102 rfl (.nil)))) (Imp.refl _) (⟨{ f with key := x.1.t }, s, a, b, rfl, .ill hb (by simp only [hw, he])⟩)
     obtain ⟨rfl, rfl, hu⟩ := hr.ok h
     try refine e_fl ?_
     have hu1 := sWant_ok hu
     simp only [hu] at hw
     refine e_plain (w_mv rfl rfl rfl rfl rfl (w_as rfl rfl rfl rfl rfl .nil)) ?_
     try refine e_fl ?_
     refine e_list ?_
     refine l_mv ?_
     refine l_mv ?_
     refine l_op (s_buildSlice (ds := [_]) [(0, _)] rfl ⟨rfl, (kn rfl), trivial⟩ rfl sl_49 sz_9 zr_9 (fun w D => .cons (.cell _) (.nil _ _)) rfl rfl rfl rfl rfl) ?_
     refine e_list_call rfl rfl rfl rfl (by kernel_rfl) (want1 l hl 4 [59] rfl (by simp) (u) (by omega)) ⟨(kn rfl), ⟨(kn rfl), ⟨(kn rfl), trivial⟩⟩⟩ ?_
     rintro _ ⟨z, a, b, rfl, hr⟩
     refine l_mv ?_
     refine l_ex ?_
     refine l_ex ?_
     refine e_alloc 16 [.is (.int .i64 0), .is (.int .i64 0)] rfl rfl rfl rfl zr_102 (fun w D M V => ⟨rfl, fun j x v h1 h2 => cfit_is _ h1 h2 rfl⟩) rfl rfl rfl rfl ?_
     refine l_as ?_
     refine e_storew rfl rfl rfl (kn rfl) rfl (kn rfl) rfl rfl sz_102 ?_
     refine e_nil ?_
     try refine e_fl ?_
     refine e_draw_mix [(6, _), (8, _)] mixed (by kernel_rfl) (WalkM.op rfl rfl rfl (s_loadn_box (ds := [_, _, _, _, _, _, _, _, _, _]) 10 rfl (kn rfl) rfl rfl agg_112 sz_112 rfl) (WalkM.op rfl rfl rfl (s_move rfl (kn rfl)) (WalkM.op rfl rfl rfl (s_loadn_box (ds := [_, _]) 2 rfl (kn rfl) rfl rfl agg_102 sz_102 rfl) (WalkM.stw rfl rfl rfl (kn rfl) rfl rfl (kn rfl) rfl rfl rfl sz_112 (WalkM.op rfl rfl rfl (s_assign rfl (kn rfl)) (WalkM.stw rfl rfl rfl (kn rfl) rfl rfl (kn rfl) rfl rfl rfl sz_102 (WalkM.nil))))))) rfl ?_
     try refine e_fl ?_
     exact e_return rfl rfl (.cell rfl rfl rfl agg_112 sz_112 rfl (.tmp (kn rfl) (.cell rfl rfl rfl agg_102 sz_102 rfl (.nil)))) (Imp.refl _) (⟨{ f with key := x.1.t }, z, a, b, rfl, hr.next (fun h => by simp only [hw, h]) (fun h => by simp only [hw, h])⟩)
    ·rw [if_pos (not_f h)] at hw
     have hlt := tkIs_lt (not_f h)
     try refine e_fl ?_
     refine e_again ⟨(n, { f with key := x.1.t }, s), by omega, by dsimp only; omega, by dsimp only; omega, hw⟩ (by dsimp only; omega) (fun K => e_sub ⟨s_t, s_t, s_t, s_t, s_t, s_t, trivial⟩ ⟨s_b, s_b, s_b, trivial⟩ trivial)
   ·rw [len_nil] at h1
    rw [if_neg (by rw [h1]; decide)] at hw
    try refine e_fl ?_
    refine e_draw_mix [(6, _), (8, _)] mixed (by kernel_rfl) (WalkM.op rfl rfl rfl (s_loadn_box (ds := [_, _, _, _, _, _, _, _, _, _]) 10 rfl (kn rfl) rfl rfl agg_112 sz_112 rfl) (WalkM.op rfl rfl rfl (s_move rfl (kn rfl)) (WalkM.op rfl rfl rfl (s_move rfl (kn rfl)) (WalkM.op rfl rfl rfl (s_call rfl (by kernel_rfl) (bad_ef (q + 1)) ⟨(kn rfl), trivial⟩) (WalkM.stw rfl rfl rfl (kn rfl) rfl rfl (kn rfl) rfl rfl rfl sz_112 (WalkM.op rfl rfl rfl (s_assign rfl (kn rfl)) (WalkM.stw rfl rfl rfl (kn rfl) rfl rfl (kn rfl) rfl rfl rfl sz_102 (WalkM.nil)))))))) rfl ?_
    try refine e_fl ?_
    exact e_return rfl rfl (.cell rfl rfl rfl agg_112 sz_112 rfl (.tmp (kn rfl) (.cell rfl rfl rfl agg_102 sz_102 rfl (.nil)))) (Imp.refl _) (⟨f, q + 1, q + 1, 9, rfl, .ill (by decide) hw⟩)
 ·have hw : sOptions l f0 p = (match sWant l 4 [59] p with | .error e => .error e | .ok s => .ok (f0, s)) := by unfold sOptions; rw [if_neg (by rw [h]; decide)]; rfl
  try refine e_fl ?_
  refine e_list ?_
  refine l_mv ?_
  refine l_mv ?_
  refine l_op (s_buildSlice (ds := [_]) [(0, _)] rfl ⟨rfl, (kn rfl), trivial⟩ rfl sl_49 sz_9 zr_9 (fun w D => .cons (.cell _) (.nil _ _)) rfl rfl rfl rfl rfl) ?_
  refine e_list_call rfl rfl rfl rfl (by kernel_rfl) (want1 l hl 4 [59] rfl (by simp) (p) (by omega)) ⟨(kn rfl), ⟨(kn rfl), ⟨(kn rfl), trivial⟩⟩⟩ ?_
  rintro _ ⟨z, a, b, rfl, hr⟩
  refine l_mv ?_
  refine l_ex ?_
  refine l_ex ?_
  refine e_alloc 16 [.is (.int .i64 0), .is (.int .i64 0)] rfl rfl rfl rfl zr_102 (fun w D M V => ⟨rfl, fun j x v h1 h2 => cfit_is _ h1 h2 rfl⟩) rfl rfl rfl rfl ?_
  refine l_as ?_
  refine e_storew rfl rfl rfl (kn rfl) rfl (kn rfl) rfl rfl sz_102 ?_
  refine e_nil ?_
  try refine e_fl ?_
  refine e_draw_mix [(6, _), (8, _)] mixed (by kernel_rfl) (WalkM.op rfl rfl rfl (s_loadn_box (ds := [_, _, _, _, _, _, _, _, _, _]) 10 rfl (kn rfl) rfl rfl agg_112 sz_112 rfl) (WalkM.op rfl rfl rfl (s_move rfl (kn rfl)) (WalkM.op rfl rfl rfl (s_loadn_box (ds := [_, _]) 2 rfl (kn rfl) rfl rfl agg_102 sz_102 rfl) (WalkM.stw rfl rfl rfl (kn rfl) rfl rfl (kn rfl) rfl rfl rfl sz_112 (WalkM.op rfl rfl rfl (s_assign rfl (kn rfl)) (WalkM.stw rfl rfl rfl (kn rfl) rfl rfl (kn rfl) rfl rfl rfl sz_102 (WalkM.nil))))))) rfl ?_
  try refine e_fl ?_
  exact e_return rfl rfl (.cell rfl rfl rfl agg_112 sz_112 rfl (.tmp (kn rfl) (.cell rfl rfl rfl agg_102 sz_102 rfl (.nil)))) (Imp.refl _) (⟨f0, z, a, b, rfl, hr.next (fun h => by simp only [hw, h]) (fun h => by simp only [hw, h])⟩)
end Go.Proofs.YtfcjeciepadmeaaGreatDoor
