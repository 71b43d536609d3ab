/- Part 11 of what the last text of this claim is proved by: walks over the program, and the math behind them. Conditions: as each theorem says. -/
import Derived.Test.YtlikbiiimhfnkaaVF10
import Derived.Test.YtlikbiiimhfnkaaProg
namespace Go.Proofs.Ytlikbiiimhfnkaa
open Go.RowKit
def wone (n : Int) (x : Vl) (s : Bool × List (Int × Vl)) (f : Int × Vl) : Bool × List (Int × Vl) := if s.1 = false ∧ n ≤ f.1 then (true, s.2 ++ [(n, x)]) else s
def wtwo (n : Int) (s : Bool × List (Int × Vl)) (f : Int × Vl) : Bool × List (Int × Vl) := if f.1 = n then s else (s.1, s.2 ++ [f])
def wfold (n : Int) (x : Vl) (fs : List (Int × Vl)) : Bool × List (Int × Vl) := fs.foldl (fun s f => wtwo n (wone n x s f) f) (decide (x.kind = 0), [])
def wfields (n : Int) (x : Vl) (fs : List (Int × Vl)) : List (Int × Vl) := if (wfold n x fs).1 then (wfold n x fs).2 else (wfold n x fs).2 ++ [(n, x)]
def vwith (v : Vl) (n : Int) (x : Vl) : Vl := if v.kind = 3 ∧ 1 ≤ n ∧ n ≤ 536870911 then .mk 3 0 [] (wfields n x v.fields) v.rest [] [] else v
theorem wfold_take {n : Int} {x : Vl} {fs : List (Int × Vl)} {k : Nat} {f : Int × Vl} (hf : fs[k]? = some f) : wfold n x (fs.take (k + 1)) = wtwo n (wone n x (wfold n x (fs.take k)) f) f := by
  unfold wfold
  rw [List.take_add_one, hf, Option.toList_some, List.foldl_append]
  rfl
set_option maxRecDepth 100000 in
theorem with_ef (v x : Vl) (n : Int) (hlen : v.fields.length ≤ 1000000) : EF Try.prog [] 21 [.many (vd v), .one (.cell (.int .i64 n)), .many (vd x)] (.part (.many (vd (vwith v n x)))) := by
  refine ef_enter 74 Try.func21 rfl rfl rfl fun w D => ?_
  try refine e_fl ?_
  refine e_list ?_
  refine e_box 3 rfl rfl rfl rfl (kn rfl) rfl rfl rfl rfl ?_
  refine e_box 5 rfl rfl rfl rfl (kn rfl) rfl rfl rfl rfl ?_
  refine e_alloc 6 [.is (.int .i64 0), .is (.int .u64 0), .is (.string ⟨#[]⟩), .is (.slice none 0 0), .is (.string ⟨#[]⟩), .is (.slice none 0 0), .is (.slice none 0 0)] rfl rfl rfl rfl zr_34 (fun w D M V => ⟨rfl, fun j x v h1 h2 => cfit_is _ h1 h2 rfl⟩) rfl rfl rfl rfl ?_
  refine e_nil ?_
  try refine e_fl ?_
  refine e_plain (w_op rfl rfl rfl (s_faddr_box rfl (kn rfl) off_34_0) (w_op rfl rfl rfl (s_load1_box rfl (kn rfl) rfl rfl one_3) (w_op rfl rfl rfl (s_bin rfl (kn rfl) (kn rfl) v_neq) (w_mv rfl rfl rfl rfl rfl (Walk.gd _ rfl rfl rfl (fun h => s_move rfl (kn rfl)) (Walk.gd _ rfl rfl rfl (fun h => s_bin rfl (kn_opt rfl h) (kn rfl) v_lss) (w_op rfl rfl rfl (s_or rfl (kn rfl) (fun hb => kn_opt rfl hb)) (w_mv rfl rfl rfl rfl rfl (Walk.gd _ rfl rfl rfl (fun h => s_move rfl (kn rfl)) (Walk.gd _ rfl rfl rfl (fun h => s_bin rfl (kn_opt rfl h) (kn rfl) v_gtr) (w_op rfl rfl rfl (s_or rfl (kn rfl) (fun hb => kn_opt rfl hb)) .nil))))))))))) ?_
  try refine e_fl ?_
  refine e_cond rfl (fun h => ?_) (fun h => ?_)
  · try refine e_fl ?_
    refine e_list ?_
    refine l_op (s_loadn_box (ds := [_, _, _, _, _, _, _]) 7 rfl (kn rfl) rfl rfl agg_34 sz_34 rfl) ?_
    refine e_storew rfl rfl rfl (kn rfl) rfl (kn rfl) rfl rfl sz_34 ?_
    refine e_nil ?_
    try refine e_fl ?_
    have hv : vwith v n x = v := if_neg fun hc => by
      rw [decide_eq_true hc.1, decide_eq_false (show ¬ n < 1 by omega), decide_eq_false (show ¬ 536870911 < n by omega)] at h
      cases h
    exact e_return rfl rfl (.cell rfl rfl rfl agg_34 sz_34 rfl (.nil)) (Imp.of_eq (by rw [hv]; rfl)) rfl
  · obtain ⟨g1, g2, g3⟩ : v.kind = 3 ∧ 1 ≤ n ∧ n ≤ 536870911 := by
      simp only [Bool.or_eq_false_iff, Bool.not_eq_false', decide_eq_true_eq, decide_eq_false_iff_not] at h
      omega
    have hv : vwith v n x = .mk 3 0 [] (wfields n x v.fields) v.rest [] [] := if_pos ⟨g1, g2, g3⟩
    try refine e_fl ?_
    refine e_list ?_
    refine l_op (s_faddr_box rfl (kn rfl) off_34_4) ?_
    refine l_op (s_load1_box rfl (kn rfl) rfl rfl one_9) ?_
    refine l_op (s_build (ds := [_, _, _, _, _, _, _]) [(0, _), (4, _)] rfl ⟨rfl, (kn rfl), ⟨rfl, (kn rfl), trivial⟩⟩ rfl pl_34 zr_34 (fun w D => .cons (.cell _) (.cons (.cell _) (.cons (.cell _) (.cons (.cell _) (.cons (.cell _) (.cons (.cell _) (.cons (.cell _) (.nil _ _)))))))) rfl) ?_
    refine e_alloc 7 [.is (.int .i64 0), .is (.int .u64 0), .is (.string ⟨#[]⟩), .is (.slice none 0 0), .is (.string ⟨#[]⟩), .is (.slice none 0 0), .is (.slice none 0 0)] rfl rfl rfl rfl zr_34 (fun w D M V => ⟨rfl, fun j x v h1 h2 => cfit_is _ h1 h2 rfl⟩) rfl rfl rfl rfl ?_
    refine e_storew rfl rfl rfl (kn rfl) rfl (kn rfl) rfl rfl sz_34 ?_
    refine e_nil ?_
    try refine e_fl ?_
    refine e_plain (w_op rfl rfl rfl (s_faddr_box rfl (kn rfl) off_34_0) (w_op rfl rfl rfl (s_load1_box rfl (kn rfl) rfl rfl one_3) (w_op rfl rfl rfl (s_bin rfl (kn rfl) (kn rfl) v_eql) (w_as rfl rfl rfl rfl rfl .nil)))) ?_
    try refine e_fl ?_
    refine e_plain (w_op rfl rfl rfl (s_faddr_box rfl (kn rfl) off_34_3) (w_op rfl rfl rfl (s_load1_box rfl (kn rfl) rfl rfl one_30) (w_op rfl rfl rfl (s_len rfl (kn rfl) sle_30) (w_mv rfl rfl rfl rfl rfl .nil)))) ?_
    try refine e_fl ?_
    refine e_row_cell 7 3 100 60 8 rfl rfl rfl rfl rfl ?_
    refine e_loop (ι := { i : Nat × Bool × List (Int × Vl) // i.1 ≤ v.fields.length ∧ wfold n x (v.fields.take i.1) = i.2 ∧ i.2.2.length ≤ 2 * i.1 })
      (fun i => [(1, .is (.int .i64 n)), (3, .box 3 0), (5, .box 5 0), (6, .box 6 0), (7, .box 7 0), (8, .is (.bool i.1.2.1)), (30, .part (.one (.row 8 v.fields.length (v.fields.flatMap fieldDats)))), (31, .is (.int .i64 (v.fields.length : Int))), (32, .is (.int .i64 (i.1.1 : Int)))])
      (fun _ => [(3, ⟨34, bcs (vd v)⟩), (5, ⟨34, bcs (vd x)⟩), (6, ⟨34, [.is (.int .i64 0), .is (.int .u64 0), .is (.string ⟨#[]⟩), .is (.slice none 0 0), .is (.string ⟨#[]⟩), .is (.slice none 0 0), .is (.slice none 0 0)]⟩), (7, ⟨34, [.is (.int .i64 3), .is (.int .u64 0), .is (.string ⟨#[]⟩), .own 100, .is (.string (str v.rest)), .is (.slice none 0 0), .is (.slice none 0 0)]⟩)])
      (fun i => [(100, ⟨60, 8, i.1.2.2.length, i.1.2.2.flatMap fieldDats, false⟩)])
      (fun i => v.fields.length - i.1.1) ⟨(0, decide (x.kind = 0), []), by simp, rfl, by simp⟩
      (fun K => e_sub ⟨s_t, s_t, s_t, s_t, s_t, s_t, s_t, s_t, s_t, trivial⟩ ⟨s_b, s_b, s_b, s_b, trivial⟩ ⟨rfl, trivial⟩) ?_
    rintro ⟨⟨k, d, acc⟩, hk, hw, ha⟩
    dsimp only at hk hw ha ⊢
    try refine e_fl ?_
    refine e_plain (w_op rfl rfl rfl (s_bin rfl (kn rfl) (kn rfl) v_lss) .nil) ?_
    try refine e_fl ?_
    refine e_cond rfl (fun h => ?_) (fun h => ?_)
    · have hlt : k < v.fields.length := by simpa using h
      obtain ⟨f, hf⟩ : ∃ f, v.fields[k]? = some f := ⟨_, List.getElem?_eq_getElem hlt⟩
      have hwt := wfold_take (n := n) (x := x) hf
      rw [hw] at hwt
      try refine e_fl ?_
      refine e_list ?_
      refine l_op (s_index rfl (kn rfl) (kn rfl) (by omega) hf fieldDats_len sle_30 esz_30 (fieldDats_vd f)) ?_
      refine l_op (s_loadn_ref rfl (kn rfl) agg_60 sz_60) ?_
      refine e_alloc 10 [.is (.int .i64 0), .is (.int .i64 0), .is (.int .u64 0), .is (.string ⟨#[]⟩), .is (.slice none 0 0), .is (.string ⟨#[]⟩), .is (.slice none 0 0), .is (.slice none 0 0)] rfl rfl rfl rfl zr_60 (fun w D M V => ⟨rfl, fun j x v h1 h2 => cfit_is _ h1 h2 rfl⟩) rfl rfl rfl rfl ?_
      refine e_storew rfl rfl rfl (kn rfl) rfl (kn rfl) rfl rfl sz_60 ?_
      refine e_nil ?_
      try refine e_fl ?_
      refine e_plain (w_mv rfl rfl rfl rfl rfl (w_op rfl rfl rfl (s_not rfl (kn rfl)) (w_mv rfl rfl rfl rfl rfl (Walk.gd _ rfl rfl rfl (fun h => s_faddr_box rfl (kn rfl) off_60_0) (Walk.gd _ rfl rfl rfl (fun h => s_load1_box rfl (kn_opt rfl h) rfl rfl one_3) (Walk.gd _ rfl rfl rfl (fun h => s_move rfl (kn rfl)) (Walk.gd _ rfl rfl rfl (fun h => s_bin rfl (kn_opt rfl h) (kn_opt rfl h) v_geq) (w_op rfl rfl rfl (s_and rfl (kn rfl) (fun hb => kn_opt rfl hb)) .nil)))))))) ?_
      try refine e_fl ?_
      refine e_cond rfl (fun h1 => ?_) (fun h1 => ?_)
      · obtain ⟨rfl, h2⟩ : d = false ∧ n ≤ f.1 := by
          simpa using h1
        have w1 : wone n x (false, acc) f = (true, acc ++ [(n, x)]) := if_pos ⟨rfl, h2⟩
        try refine e_fl ?_
        refine e_list ?_
        refine l_op (s_faddr_box rfl (kn rfl) off_34_3) ?_
        refine l_op (s_load1_box rfl (kn rfl) rfl rfl one_30) ?_
        refine l_mv ?_
        refine l_op (s_loadn_box (ds := [_, _, _, _, _, _, _]) 7 rfl (kn rfl) rfl rfl agg_34 sz_34 rfl) ?_
        refine l_op (s_build (ds := [_, _, _, _, _, _, _, _]) [(0, _), (1, _)] rfl ⟨rfl, (kn rfl), ⟨rfl, (kn rfl), trivial⟩⟩ rfl pl_60 zr_60 (fun w D => .cons (.cell _) (.cons (.cell _) (.cons (.cell _) (.cons (.cell _) (.cons (.cell _) (.cons (.cell _) (.cons (.cell _) (.cons (.cell _) (.nil _ _))))))))) rfl) ?_
        refine l_op (s_buildSlice (ds := [_, _, _, _, _, _, _, _]) [(0, _)] rfl ⟨rfl, (kn rfl), trivial⟩ rfl sl_30 sz_60 zr_60 (fun w D => .cons (.cell _) (.cons (.cell _) (.cons (.cell _) (.cons (.cell _) (.cons (.cell _) (.cons (.cell _) (.cons (.cell _) (.cons (.cell _) (.nil _ _))))))))) rfl rfl rfl rfl rfl) ?_
        refine e_append rfl rfl rfl rfl (kn rfl) rfl (kn rfl) sl_30 ap_30 rfl rfl (by first | omega | (dsimp only; omega) | omega) (by first | omega | (dsimp only; omega) | omega) ?_
        refine l_op (s_faddr_box rfl (kn rfl) off_34_3) ?_
        refine e_store_own rfl rfl rfl (kn rfl) rfl (kn rfl) rfl rfl sz_30 rfl ?_
        refine e_nil ?_
        try refine e_fl ?_
        refine e_plain (w_as rfl rfl rfl rfl rfl .nil) ?_
        try refine e_fl ?_
        refine e_plain (w_op rfl rfl rfl (s_faddr_box rfl (kn rfl) off_60_0) (w_op rfl rfl rfl (s_load1_box rfl (kn rfl) rfl rfl one_3) (w_mv rfl rfl rfl rfl rfl (w_op rfl rfl rfl (s_bin rfl (kn rfl) (kn rfl) v_neq) .nil)))) ?_
        try refine e_fl ?_
        refine e_cond rfl (fun h3 => ?_) (fun h3 => ?_)
        · have h4 : ¬ f.1 = n := by simpa using h3
          try refine e_fl ?_
          refine e_list ?_
          refine l_op (s_faddr_box rfl (kn rfl) off_34_3) ?_
          refine l_op (s_load1_box rfl (kn rfl) rfl rfl one_30) ?_
          refine l_op (s_loadn_box (ds := [_, _, _, _, _, _, _, _]) 8 rfl (kn rfl) rfl rfl agg_60 sz_60 rfl) ?_
          refine l_op (s_buildSlice (ds := [_, _, _, _, _, _, _, _]) [(0, _)] rfl ⟨rfl, (kn rfl), trivial⟩ rfl sl_30 sz_60 zr_60 (fun w D => .cons (.cell _) (.cons (.cell _) (.cons (.cell _) (.cons (.cell _) (.cons (.cell _) (.cons (.cell _) (.cons (.cell _) (.cons (.cell _) (.nil _ _))))))))) rfl rfl rfl rfl rfl) ?_
          refine e_append rfl rfl rfl rfl (kn rfl) rfl (kn rfl) sl_30 ap_30 rfl rfl (by first | omega | (dsimp only; omega) | omega) (by first | omega | (dsimp only; omega) | omega) ?_
          refine l_op (s_faddr_box rfl (kn rfl) off_34_3) ?_
          refine e_store_own rfl rfl rfl (kn rfl) rfl (kn rfl) rfl rfl sz_30 rfl ?_
          refine e_nil ?_
          try refine e_fl ?_
          refine e_plain (w_op rfl rfl rfl (s_bin rfl (kn rfl) (kn rfl) (v_add64 (by first | omega | (dsimp only; omega) | omega))) (w_mv rfl rfl rfl rfl rfl .nil)) ?_
          try refine e_fl ?_
          refine e_again ⟨(k + 1, true, (acc ++ [(n, x)]) ++ [f]), by omega, by rw [hwt]; (rw [w1]; exact if_neg h4), by first | omega | (simp only [List.length_append, List.length_cons, List.length_nil]; omega)⟩ (by dsimp only; omega) (fun K => e_sub ⟨s_t, s_t, s_t, s_t, s_t, s_t, s_t, s_t, s_t, trivial⟩ ⟨s_b, s_b, s_b, s_b, trivial⟩ ⟨by first | rfl | exact rowEq rfl (by simp) (by simp [List.flatMap_append, fieldDats_vd, vd]), trivial⟩)
        · have h4 : f.1 = n := by simpa using h3
          try refine e_fl ?_
          refine e_plain (w_op rfl rfl rfl (s_bin rfl (kn rfl) (kn rfl) (v_add64 (by first | omega | (dsimp only; omega) | omega))) (w_mv rfl rfl rfl rfl rfl .nil)) ?_
          try refine e_fl ?_
          refine e_again ⟨(k + 1, true, acc ++ [(n, x)]), by omega, by rw [hwt]; (rw [w1]; exact if_pos h4), by first | omega | (simp only [List.length_append, List.length_cons, List.length_nil]; omega)⟩ (by dsimp only; omega) (fun K => e_sub ⟨s_t, s_t, s_t, s_t, s_t, s_t, s_t, s_t, s_t, trivial⟩ ⟨s_b, s_b, s_b, s_b, trivial⟩ ⟨by first | rfl | exact rowEq rfl (by simp) (by simp [List.flatMap_append, fieldDats_vd, vd]), trivial⟩)
      · have w1 : wone n x (d, acc) f = (d, acc) := if_neg fun hc => by
          rw [show d = false from hc.1, decide_eq_true (show n ≤ f.1 from hc.2)] at h1
          cases h1
        try refine e_fl ?_
        refine e_plain (w_op rfl rfl rfl (s_faddr_box rfl (kn rfl) off_60_0) (w_op rfl rfl rfl (s_load1_box rfl (kn rfl) rfl rfl one_3) (w_mv rfl rfl rfl rfl rfl (w_op rfl rfl rfl (s_bin rfl (kn rfl) (kn rfl) v_neq) .nil)))) ?_
        try refine e_fl ?_
        refine e_cond rfl (fun h3 => ?_) (fun h3 => ?_)
        · have h4 : ¬ f.1 = n := by simpa using h3
          try refine e_fl ?_
          refine e_list ?_
          refine l_op (s_faddr_box rfl (kn rfl) off_34_3) ?_
          refine l_op (s_load1_box rfl (kn rfl) rfl rfl one_30) ?_
          refine l_op (s_loadn_box (ds := [_, _, _, _, _, _, _, _]) 8 rfl (kn rfl) rfl rfl agg_60 sz_60 rfl) ?_
          refine l_op (s_buildSlice (ds := [_, _, _, _, _, _, _, _]) [(0, _)] rfl ⟨rfl, (kn rfl), trivial⟩ rfl sl_30 sz_60 zr_60 (fun w D => .cons (.cell _) (.cons (.cell _) (.cons (.cell _) (.cons (.cell _) (.cons (.cell _) (.cons (.cell _) (.cons (.cell _) (.cons (.cell _) (.nil _ _))))))))) rfl rfl rfl rfl rfl) ?_
          refine e_append rfl rfl rfl rfl (kn rfl) rfl (kn rfl) sl_30 ap_30 rfl rfl (by first | omega | (dsimp only; omega) | omega) (by first | omega | (dsimp only; omega) | omega) ?_
          refine l_op (s_faddr_box rfl (kn rfl) off_34_3) ?_
          refine e_store_own rfl rfl rfl (kn rfl) rfl (kn rfl) rfl rfl sz_30 rfl ?_
          refine e_nil ?_
          try refine e_fl ?_
          refine e_plain (w_op rfl rfl rfl (s_bin rfl (kn rfl) (kn rfl) (v_add64 (by first | omega | (dsimp only; omega) | omega))) (w_mv rfl rfl rfl rfl rfl .nil)) ?_
          try refine e_fl ?_
          refine e_again ⟨(k + 1, d, acc ++ [f]), by omega, by rw [hwt]; (rw [w1]; exact if_neg h4), by first | omega | (simp only [List.length_append, List.length_cons, List.length_nil]; omega)⟩ (by dsimp only; omega) (fun K => e_sub ⟨s_t, s_t, s_t, s_t, s_t, s_t, s_t, s_t, s_t, trivial⟩ ⟨s_b, s_b, s_b, s_b, trivial⟩ ⟨by first | rfl | exact rowEq rfl (by simp) (by simp [List.flatMap_append, fieldDats_vd, vd]), trivial⟩)
        · have h4 : f.1 = n := by simpa using h3
          try refine e_fl ?_
          refine e_plain (w_op rfl rfl rfl (s_bin rfl (kn rfl) (kn rfl) (v_add64 (by first | omega | (dsimp only; omega) | omega))) (w_mv rfl rfl rfl rfl rfl .nil)) ?_
          try refine e_fl ?_
          refine e_again ⟨(k + 1, d, acc), by omega, by rw [hwt]; (rw [w1]; exact if_pos h4), by first | omega | (simp only [List.length_append, List.length_cons, List.length_nil]; omega)⟩ (by dsimp only; omega) (fun K => e_sub ⟨s_t, s_t, s_t, s_t, s_t, s_t, s_t, s_t, s_t, trivial⟩ ⟨s_b, s_b, s_b, s_b, trivial⟩ ⟨by first | rfl | exact rowEq rfl (by simp) (by simp [List.flatMap_append, fieldDats_vd, vd]), trivial⟩)
    · obtain rfl : k = v.fields.length := by
        have : ¬ k < v.fields.length := by simpa using h
        omega
      rw [List.take_length] at hw
      try refine e_fl ?_
      refine e_plain (w_mv rfl rfl rfl rfl rfl (w_op rfl rfl rfl (s_not rfl (kn rfl)) .nil)) ?_
      try refine e_fl ?_
      refine e_cond rfl (fun h1 => ?_) (fun h1 => ?_)
      · obtain rfl : d = false := by simpa using h1
        have hv2 : wfields n x v.fields = acc ++ [(n, x)] := by unfold wfields; rw [hw]; rfl
        try refine e_fl ?_
        refine e_list ?_
        refine l_op (s_faddr_box rfl (kn rfl) off_34_3) ?_
        refine l_op (s_load1_box rfl (kn rfl) rfl rfl one_30) ?_
        refine l_mv ?_
        refine l_op (s_loadn_box (ds := [_, _, _, _, _, _, _]) 7 rfl (kn rfl) rfl rfl agg_34 sz_34 rfl) ?_
        refine l_op (s_build (ds := [_, _, _, _, _, _, _, _]) [(0, _), (1, _)] rfl ⟨rfl, (kn rfl), ⟨rfl, (kn rfl), trivial⟩⟩ rfl pl_60 zr_60 (fun w D => .cons (.cell _) (.cons (.cell _) (.cons (.cell _) (.cons (.cell _) (.cons (.cell _) (.cons (.cell _) (.cons (.cell _) (.cons (.cell _) (.nil _ _))))))))) rfl) ?_
        refine l_op (s_buildSlice (ds := [_, _, _, _, _, _, _, _]) [(0, _)] rfl ⟨rfl, (kn rfl), trivial⟩ rfl sl_30 sz_60 zr_60 (fun w D => .cons (.cell _) (.cons (.cell _) (.cons (.cell _) (.cons (.cell _) (.cons (.cell _) (.cons (.cell _) (.cons (.cell _) (.cons (.cell _) (.nil _ _))))))))) rfl rfl rfl rfl rfl) ?_
        refine e_append rfl rfl rfl rfl (kn rfl) rfl (kn rfl) sl_30 ap_30 rfl rfl (by first | omega | (dsimp only; omega) | omega) (by first | omega | (dsimp only; omega) | omega) ?_
        refine l_op (s_faddr_box rfl (kn rfl) off_34_3) ?_
        refine e_store_own rfl rfl rfl (kn rfl) rfl (kn rfl) rfl rfl sz_30 rfl ?_
        refine e_nil ?_
        try refine e_fl ?_
        refine e_freeze_cell 7 3 100 rfl rfl rfl rfl rfl ?_
        refine e_list ?_
        refine l_op (s_loadn_box (ds := [_, _, _, _, _, _, _]) 7 rfl (kn rfl) rfl rfl agg_34 sz_34 rfl) ?_
        refine e_storew rfl rfl rfl (kn rfl) rfl (kn rfl) rfl rfl sz_34 ?_
        refine e_nil ?_
        try refine e_fl ?_
        exact e_return rfl rfl (.cell rfl rfl rfl agg_34 sz_34 rfl (.nil)) (Imp.many (by rw [hv, hv2]; exact ⟨DImp.refl _, DImp.refl _, DImp.refl _, DImp.of_eq (by simp [List.flatMap_append, fieldDats_vd, Vl.fields, vd]), DImp.refl _, DImp.nil 7, DImp.nil 14, trivial⟩)) rfl
      · obtain rfl : d = true := by simpa using h1
        have hv2 : wfields n x v.fields = acc := by unfold wfields; rw [hw]; rfl
        try refine e_fl ?_
        refine e_freeze_cell 7 3 100 rfl rfl rfl rfl rfl ?_
        refine e_list ?_
        refine l_op (s_loadn_box (ds := [_, _, _, _, _, _, _]) 7 rfl (kn rfl) rfl rfl agg_34 sz_34 rfl) ?_
        refine e_storew rfl rfl rfl (kn rfl) rfl (kn rfl) rfl rfl sz_34 ?_
        refine e_nil ?_
        try refine e_fl ?_
        exact e_return rfl rfl (.cell rfl rfl rfl agg_34 sz_34 rfl (.nil)) (Imp.many (by rw [hv, hv2]; exact ⟨DImp.refl _, DImp.refl _, DImp.refl _, DImp.of_eq rfl, DImp.refl _, DImp.nil 7, DImp.nil 14, trivial⟩)) rfl
end Go.Proofs.Ytlikbiiimhfnkaa
namespace Go.Proofs.Ytlikbiiimhfnkaa
open Go.RowKit
def pone (key x : Vl) (s : Bool × List (Vl × Vl)) (f : Vl × Vl) : Bool × List (Vl × Vl) := if s.1 = false ∧ 0 ≤ vcmp f.1 key then (true, s.2 ++ [(key, x)]) else s
def ptwo (key : Vl) (s : Bool × List (Vl × Vl)) (f : Vl × Vl) : Bool × List (Vl × Vl) := if vcmp f.1 key = 0 then s else (s.1, s.2 ++ [f])
def pfold (key x : Vl) (fs : List (Vl × Vl)) : Bool × List (Vl × Vl) := fs.foldl (fun s f => ptwo key (pone key x s f) f) (decide (x.kind = 0), [])
def ppairs (key x : Vl) (fs : List (Vl × Vl)) : List (Vl × Vl) := if (pfold key x fs).1 then (pfold key x fs).2 else (pfold key x fs).2 ++ [(key, x)]
def vput (v key x : Vl) : Vl := if v.kind = 5 ∨ v.kind = 0 then .mk (if 0 < (ppairs key x v.pairs).length then 5 else 0) 0 [] [] [] [] (ppairs key x v.pairs) else v
abbrev zB : List IV := [.is (.int .i64 0), .is (.int .u64 0), .is (.string ⟨#[]⟩), .is (.slice none 0 0), .is (.string ⟨#[]⟩), .is (.slice none 0 0), .is (.slice none 0 0)]
end Go.Proofs.Ytlikbiiimhfnkaa
namespace Go.Proofs.Ytlikbiiimhfnkaa
open Go.RowKit
theorem flatf_one (l : List (Int × Vl)) (x : Int × Vl) : (l ++ [x]).flatMap fieldDats = l.flatMap fieldDats ++ (.cell (.int .i64 x.1) :: vd x.2) := by rw [List.flatMap_append, ← fieldDats_vd]; simp
theorem flatp_one (l : List (Vl × Vl)) (x : Vl × Vl) : (l ++ [x]).flatMap pairDats = l.flatMap pairDats ++ (vd x.1 ++ vd x.2) := by rw [List.flatMap_append, ← pairDats_vd]; simp
abbrev ofB (v : Vl) : BL := [(1, ⟨27, bcs (vd v)⟩), (2, ⟨34, zB⟩), (3, ⟨34, [.is (.int .i64 v.kind), .is (.int .u64 (v.num : Int)), .is (.string (str v.text)), .own 100, .is (.string (str v.rest)), .own 101, .own 102]⟩)]
abbrev ofR (v : Vl) (f l p : Nat) : RL := [(100, ⟨60, 8, f, (v.fields.take f).flatMap fieldDats, false⟩), (101, ⟨34, 7, l, (v.list.take l).flatMap Vl.dats, false⟩), (102, ⟨64, 14, p, (v.pairs.take p).flatMap pairDats, false⟩)]
set_option maxRecDepth 100000 in
set_option maxHeartbeats 4000000 in
theorem of_step (v : Vl) (hn : vnodes v ≤ 1000000) (ih : ∀ x ∈ rkids v, EF Try.prog [] 9 [.many (vd x)] (.part (.many (vd x)))) : EF Try.prog [] 9 [.many (vd v)] (.part (.many (vd v))) := by
  have hlen := rkids_len v hn
  have ihf : ∀ f ∈ v.fields, f.2 ∈ rkids v := fun f h => by unfold rkids; exact List.mem_append_left _ (List.mem_append_right _ (List.mem_map.2 ⟨f, h, rfl⟩))
  have ihl : ∀ f ∈ v.list, f ∈ rkids v := fun f h => by unfold rkids; exact List.mem_append_left _ (List.mem_append_left _ h)
  have ihp : ∀ p ∈ v.pairs, p.1 ∈ rkids v ∧ p.2 ∈ rkids v := fun p h => by
    unfold rkids gpairs
    exact ⟨List.mem_append_right _ (List.mem_flatMap.2 ⟨p, h, by simp⟩), List.mem_append_right _ (List.mem_flatMap.2 ⟨p, h, by simp⟩)⟩
  refine ef_enter 74 Try.func9 rfl rfl rfl fun w D => ?_
  try refine e_fl ?_
  refine e_list ?_
  refine e_box 1 rfl rfl rfl rfl (kn rfl) rfl rfl rfl rfl ?_
  refine e_alloc 2 [.is (.int .i64 0), .is (.int .u64 0), .is (.string ⟨#[]⟩), .is (.slice none 0 0), .is (.string ⟨#[]⟩), .is (.slice none 0 0), .is (.slice none 0 0)] rfl rfl rfl rfl zr_34 (fun w D M V => ⟨rfl, fun j x v h1 h2 => cfit_is _ h1 h2 rfl⟩) rfl rfl rfl rfl ?_
  refine e_nil ?_
  try refine e_fl ?_
  refine e_list ?_
  refine l_op (s_faddr_box rfl (kn rfl) off_27_0) ?_
  refine l_op (s_load1_box rfl (kn rfl) rfl rfl one_3) ?_
  refine l_op (s_faddr_box rfl (kn rfl) off_27_1) ?_
  refine l_op (s_load1_box rfl (kn rfl) rfl rfl one_22) ?_
  refine l_op (s_faddr_box rfl (kn rfl) off_27_2) ?_
  refine l_op (s_load1_box rfl (kn rfl) rfl rfl one_9) ?_
  refine l_op (s_faddr_box rfl (kn rfl) off_27_4) ?_
  refine l_op (s_load1_box rfl (kn rfl) rfl rfl one_9) ?_
  refine l_op (s_build (ds := [_, _, _, _, _, _, _]) [(0, _), (1, _), (2, _), (4, _)] rfl ⟨rfl, (kn rfl), ⟨rfl, (kn rfl), ⟨rfl, (kn rfl), ⟨rfl, (kn rfl), trivial⟩⟩⟩⟩ rfl pl_34 zr_34 (fun w D => .cons (.cell _) (.cons (.cell _) (.cons (.cell _) (.cons (.cell _) (.cons (.cell _) (.cons (.cell _) (.cons (.cell _) (.nil _ _)))))))) rfl) ?_
  refine e_alloc 3 [.is (.int .i64 0), .is (.int .u64 0), .is (.string ⟨#[]⟩), .is (.slice none 0 0), .is (.string ⟨#[]⟩), .is (.slice none 0 0), .is (.slice none 0 0)] rfl rfl rfl rfl zr_34 (fun w D M V => ⟨rfl, fun j x v h1 h2 => cfit_is _ h1 h2 rfl⟩) rfl rfl rfl rfl ?_
  refine e_storew rfl rfl rfl (kn rfl) rfl (kn rfl) rfl rfl sz_34 ?_
  refine e_nil ?_
  try refine e_fl ?_
  refine e_row_cell 3 3 100 60 8 rfl rfl rfl rfl rfl ?_
  refine e_row_cell 3 5 101 34 7 rfl rfl rfl rfl rfl ?_
  refine e_row_cell 3 6 102 64 14 rfl rfl rfl rfl rfl ?_
  refine e_plain (w_op rfl rfl rfl (s_faddr_box rfl (kn rfl) off_27_3) (w_op rfl rfl rfl (s_load1_box rfl (kn rfl) rfl rfl one_23) (w_op rfl rfl rfl (s_len rfl (kn rfl) sle_23) (w_mv rfl rfl rfl rfl rfl .nil)))) ?_
  try refine e_fl ?_
  refine e_loop (ι := { k : Nat // k ≤ v.fields.length })
    (fun k => [(1, .box 1 0), (2, .box 2 0), (3, .box 3 0), (20, .part (.one (.row 8 v.fields.length (v.fields.flatMap fieldDats)))), (21, .is (.int .i64 (v.fields.length : Int))), (22, .is (.int .i64 (k.1 : Int)))])
    (fun _ => ofB v) (fun k => ofR v k.1 0 0) (fun k => v.fields.length - k.1) ⟨0, by omega⟩
    (fun K => e_sub ⟨s_t, s_t, s_t, s_t, s_t, s_t, trivial⟩ ⟨s_b, s_b, s_b, trivial⟩ ⟨rfl, rfl, rfl, trivial⟩) ?_
  rintro ⟨k, hk⟩
  dsimp only at hk ⊢
  try refine e_fl ?_
  refine e_plain (w_op rfl rfl rfl (s_bin rfl (kn rfl) (kn rfl) v_lss) .nil) ?_
  try refine e_fl ?_
  refine e_cond rfl (fun h => ?_) (fun h => ?_)
  · have hlt : k < v.fields.length := by have := of_decide_eq_true h; omega
    obtain ⟨x, hx⟩ : ∃ x, v.fields[k]? = some x := ⟨_, List.getElem?_eq_getElem hlt⟩
    have htk : v.fields.take (k + 1) = v.fields.take k ++ [x] := by rw [List.take_add_one, hx]; rfl
    try refine e_fl ?_
    refine e_list ?_
    refine l_op (s_index rfl (kn rfl) (kn rfl) (by omega) hx fieldDats_len sle_23 esz_23 (fieldDats_vd x)) ?_
    refine l_op (s_loadn_ref rfl (kn rfl) agg_58 sz_58) ?_
    refine e_alloc 5 [.is (.int .i64 0), .is (.int .i64 0), .is (.int .u64 0), .is (.string ⟨#[]⟩), .is (.slice none 0 0), .is (.string ⟨#[]⟩), .is (.slice none 0 0), .is (.slice none 0 0)] rfl rfl rfl rfl zr_58 (fun w D M V => ⟨rfl, fun j x v h1 h2 => cfit_is _ h1 h2 rfl⟩) rfl rfl rfl rfl ?_
    refine e_storew rfl rfl rfl (kn rfl) rfl (kn rfl) rfl rfl sz_58 ?_
    refine e_nil ?_
    try refine e_fl ?_
    refine e_draw_tail 9 mixed (by kernel_rfl) (w_op rfl rfl rfl (s_faddr_box rfl (kn rfl) off_34_3) (w_op rfl rfl rfl (s_load1_box rfl (kn rfl) rfl rfl one_30) (w_op rfl rfl rfl (s_faddr_box rfl (kn rfl) off_58_0) (w_op rfl rfl rfl (s_load1_box rfl (kn rfl) rfl rfl one_3) (w_op rfl rfl rfl (s_faddr_box rfl (kn rfl) off_58_1) (w_op rfl rfl rfl (s_loadn_box (ds := [_, _, _, _, _, _, _]) 7 rfl (kn rfl) rfl rfl agg_27 sz_27 rfl) (w_op rfl rfl rfl (s_call rfl (by kernel_rfl) (ih x.2 (ihf x (List.mem_of_getElem? hx))) ⟨(kn rfl), trivial⟩) (w_op rfl rfl rfl (s_build (ds := [_, _, _, _, _, _, _, _]) [(0, _), (1, _)] rfl ⟨rfl, (kn rfl), ⟨rfl, (kn rfl), trivial⟩⟩ rfl pl_60 zr_60 (fun w D => .cons (.cell _) (.cons (.cell _) (.cons (.cell _) (.cons (.cell _) (.cons (.cell _) (.cons (.cell _) (.cons (.cell _) (.cons (.cell _) (.nil _ _))))))))) rfl) (w_op rfl rfl rfl (s_buildSlice (ds := [_, _, _, _, _, _, _, _]) [(0, _)] rfl ⟨rfl, (kn rfl), trivial⟩ rfl sl_30 sz_60 zr_60 (fun w D => .cons (.cell _) (.cons (.cell _) (.cons (.cell _) (.cons (.cell _) (.cons (.cell _) (.cons (.cell _) (.cons (.cell _) (.cons (.cell _) (.nil _ _))))))))) rfl rfl rfl rfl rfl) .nil))))))))) ?_
    refine e_append rfl rfl rfl rfl (kn rfl) rfl (kn rfl) sl_30 ap_30 rfl rfl (by first | omega | (dsimp only; omega) | omega) (by first | omega | (dsimp only; omega) | omega) ?_
    refine l_op (s_faddr_box rfl (kn rfl) off_34_3) ?_
    refine e_store_own rfl rfl rfl (kn rfl) rfl (kn rfl) rfl rfl sz_30 rfl ?_
    refine e_nil ?_
    try refine e_fl ?_
    refine e_plain (w_op rfl rfl rfl (s_bin rfl (kn rfl) (kn rfl) (v_add64 (by first | omega | (dsimp only; omega) | omega))) (w_mv rfl rfl rfl rfl rfl .nil)) ?_
    try refine e_fl ?_
    refine e_again ⟨k + 1, by omega⟩ (by dsimp only; omega) (fun K => e_sub ⟨s_t, s_t, s_t, s_t, s_t, s_t, trivial⟩ ⟨s_b, s_b, s_b, trivial⟩ ⟨rowEq rfl rfl (by rw [htk, flatf_one]; rfl), rfl, rfl, trivial⟩)
  obtain rfl : k = v.fields.length := by have := of_decide_eq_false h; omega
  try refine e_fl ?_
  refine e_plain (w_op rfl rfl rfl (s_faddr_box rfl (kn rfl) off_27_5) (w_op rfl rfl rfl (s_load1_box rfl (kn rfl) rfl rfl one_24) (w_op rfl rfl rfl (s_len rfl (kn rfl) sle_24) (w_mv rfl rfl rfl rfl rfl .nil)))) ?_
  try refine e_fl ?_
  refine e_loop (ι := { k : Nat // k ≤ v.list.length })
    (fun k => [(1, .box 1 0), (2, .box 2 0), (3, .box 3 0), (39, .part (lP v.list)), (40, .is (.int .i64 (v.list.length : Int))), (41, .is (.int .i64 (k.1 : Int)))])
    (fun _ => ofB v) (fun k => ofR v v.fields.length k.1 0) (fun k => v.list.length - k.1) ⟨0, by omega⟩
    (fun K => e_sub ⟨s_t, s_t, s_t, s_t, s_t, s_t, trivial⟩ ⟨s_b, s_b, s_b, trivial⟩ ⟨rfl, rfl, rfl, trivial⟩) ?_
  rintro ⟨k, hk⟩
  dsimp only at hk ⊢
  try refine e_fl ?_
  refine e_plain (w_op rfl rfl rfl (s_bin rfl (kn rfl) (kn rfl) v_lss) .nil) ?_
  try refine e_fl ?_
  refine e_cond rfl (fun h => ?_) (fun h => ?_)
  · have hlt : k < v.list.length := by have := of_decide_eq_true h; omega
    obtain ⟨x, hx⟩ : ∃ x, v.list[k]? = some x := ⟨_, List.getElem?_eq_getElem hlt⟩
    have htk : v.list.take (k + 1) = v.list.take k ++ [x] := by rw [List.take_add_one, hx]; rfl
    try refine e_fl ?_
    refine e_list ?_
    refine l_op (s_index rfl (kn rfl) (kn rfl) (by omega) hx Vl.dats_len sle_24 esz_24 (dats_vd x)) ?_
    refine l_op (s_loadn_ref rfl (kn rfl) agg_27 sz_27) ?_
    refine e_alloc 7 [.is (.int .i64 0), .is (.int .u64 0), .is (.string ⟨#[]⟩), .is (.slice none 0 0), .is (.string ⟨#[]⟩), .is (.slice none 0 0), .is (.slice none 0 0)] rfl rfl rfl rfl zr_27 (fun w D M V => ⟨rfl, fun j x v h1 h2 => cfit_is _ h1 h2 rfl⟩) rfl rfl rfl rfl ?_
    refine e_storew rfl rfl rfl (kn rfl) rfl (kn rfl) rfl rfl sz_27 ?_
    refine e_nil ?_
    try refine e_fl ?_
    refine e_draw_tail 5 mixed (by kernel_rfl) (w_op rfl rfl rfl (s_faddr_box rfl (kn rfl) off_34_5) (w_op rfl rfl rfl (s_load1_box rfl (kn rfl) rfl rfl one_31) (w_op rfl rfl rfl (s_loadn_box (ds := [_, _, _, _, _, _, _]) 7 rfl (kn rfl) rfl rfl agg_27 sz_27 rfl) (w_op rfl rfl rfl (s_call rfl (by kernel_rfl) (ih x (ihl x (List.mem_of_getElem? hx))) ⟨(kn rfl), trivial⟩) (w_op rfl rfl rfl (s_buildSlice (ds := [_, _, _, _, _, _, _]) [(0, _)] rfl ⟨rfl, (kn rfl), trivial⟩ rfl sl_31 sz_34 zr_34 (fun w D => .cons (.cell _) (.cons (.cell _) (.cons (.cell _) (.cons (.cell _) (.cons (.cell _) (.cons (.cell _) (.cons (.cell _) (.nil _ _)))))))) rfl rfl rfl rfl rfl) .nil))))) ?_
    refine e_append rfl rfl rfl rfl (kn rfl) rfl (kn rfl) sl_31 ap_31 rfl rfl (by first | omega | (dsimp only; omega) | omega) (by first | omega | (dsimp only; omega) | omega) ?_
    refine l_op (s_faddr_box rfl (kn rfl) off_34_5) ?_
    refine e_store_own rfl rfl rfl (kn rfl) rfl (kn rfl) rfl rfl sz_31 rfl ?_
    refine e_nil ?_
    try refine e_fl ?_
    refine e_plain (w_op rfl rfl rfl (s_bin rfl (kn rfl) (kn rfl) (v_add64 (by first | omega | (dsimp only; omega) | omega))) (w_mv rfl rfl rfl rfl rfl .nil)) ?_
    try refine e_fl ?_
    refine e_again ⟨k + 1, by omega⟩ (by dsimp only; omega) (fun K => e_sub ⟨s_t, s_t, s_t, s_t, s_t, s_t, trivial⟩ ⟨s_b, s_b, s_b, trivial⟩ ⟨rfl, rowEq rfl rfl (by rw [htk, flat_one]; rfl), rfl, trivial⟩)
  obtain rfl : k = v.list.length := by have := of_decide_eq_false h; omega
  try refine e_fl ?_
  refine e_plain (w_op rfl rfl rfl (s_faddr_box rfl (kn rfl) off_27_6) (w_op rfl rfl rfl (s_load1_box rfl (kn rfl) rfl rfl one_25) (w_op rfl rfl rfl (s_len rfl (kn rfl) sle_25) (w_mv rfl rfl rfl rfl rfl .nil)))) ?_
  try refine e_fl ?_
  refine e_loop (ι := { k : Nat // k ≤ v.pairs.length })
    (fun k => [(1, .box 1 0), (2, .box 2 0), (3, .box 3 0), (54, .part (.one (.row 14 v.pairs.length (v.pairs.flatMap pairDats)))), (55, .is (.int .i64 (v.pairs.length : Int))), (56, .is (.int .i64 (k.1 : Int)))])
    (fun _ => ofB v) (fun k => ofR v v.fields.length v.list.length k.1) (fun k => v.pairs.length - k.1) ⟨0, by omega⟩
    (fun K => e_sub ⟨s_t, s_t, s_t, s_t, s_t, s_t, trivial⟩ ⟨s_b, s_b, s_b, trivial⟩ ⟨rfl, rfl, rfl, trivial⟩) ?_
  rintro ⟨k, hk⟩
  dsimp only at hk ⊢
  try refine e_fl ?_
  refine e_plain (w_op rfl rfl rfl (s_bin rfl (kn rfl) (kn rfl) v_lss) .nil) ?_
  try refine e_fl ?_
  refine e_cond rfl (fun h => ?_) (fun h => ?_)
  · have hlt : k < v.pairs.length := by have := of_decide_eq_true h; omega
    obtain ⟨x, hx⟩ : ∃ x, v.pairs[k]? = some x := ⟨_, List.getElem?_eq_getElem hlt⟩
    have htk : v.pairs.take (k + 1) = v.pairs.take k ++ [x] := by rw [List.take_add_one, hx]; rfl
    try refine e_fl ?_
    refine e_list ?_
    refine l_op (s_index rfl (kn rfl) (kn rfl) (by omega) hx pairDats_len sle_25 esz_25 (pairDats_vd x)) ?_
    refine l_op (s_loadn_ref rfl (kn rfl) agg_62 sz_62) ?_
    refine e_alloc 9 [.is (.int .i64 0), .is (.int .u64 0), .is (.string ⟨#[]⟩), .is (.slice none 0 0), .is (.string ⟨#[]⟩), .is (.slice none 0 0), .is (.slice none 0 0), .is (.int .i64 0), .is (.int .u64 0), .is (.string ⟨#[]⟩), .is (.slice none 0 0), .is (.string ⟨#[]⟩), .is (.slice none 0 0), .is (.slice none 0 0)] rfl rfl rfl rfl zr_62 (fun w D M V => ⟨rfl, fun j x v h1 h2 => cfit_is _ h1 h2 rfl⟩) rfl rfl rfl rfl ?_
    refine e_storew rfl rfl rfl (kn rfl) rfl (kn rfl) rfl rfl sz_62 ?_
    refine e_nil ?_
    try refine e_fl ?_
    refine e_draw_tail 10 mixed (by kernel_rfl) (w_op rfl rfl rfl (s_faddr_box rfl (kn rfl) off_34_6) (w_op rfl rfl rfl (s_load1_box rfl (kn rfl) rfl rfl one_32) (w_op rfl rfl rfl (s_faddr_box rfl (kn rfl) off_62_0) (w_op rfl rfl rfl (s_loadn_box (ds := [_, _, _, _, _, _, _]) 7 rfl (kn rfl) rfl rfl agg_27 sz_27 rfl) (w_op rfl rfl rfl (s_call rfl (by kernel_rfl) (ih x.1 (ihp x (List.mem_of_getElem? hx)).1) ⟨(kn rfl), trivial⟩) (w_op rfl rfl rfl (s_faddr_box rfl (kn rfl) off_62_1) (w_op rfl rfl rfl (s_loadn_box (ds := [_, _, _, _, _, _, _]) 7 rfl (kn rfl) rfl rfl agg_27 sz_27 rfl) (w_op rfl rfl rfl (s_call rfl (by kernel_rfl) (ih x.2 (ihp x (List.mem_of_getElem? hx)).2) ⟨(kn rfl), trivial⟩) (w_op rfl rfl rfl (s_build (ds := [_, _, _, _, _, _, _, _, _, _, _, _, _, _]) [(0, _), (1, _)] rfl ⟨rfl, (kn rfl), ⟨rfl, (kn rfl), trivial⟩⟩ rfl pl_64 zr_64 (fun w D => .cons (.cell _) (.cons (.cell _) (.cons (.cell _) (.cons (.cell _) (.cons (.cell _) (.cons (.cell _) (.cons (.cell _) (.cons (.cell _) (.cons (.cell _) (.cons (.cell _) (.cons (.cell _) (.cons (.cell _) (.cons (.cell _) (.cons (.cell _) (.nil _ _))))))))))))))) rfl) (w_op rfl rfl rfl (s_buildSlice (ds := [_, _, _, _, _, _, _, _, _, _, _, _, _, _]) [(0, _)] rfl ⟨rfl, (kn rfl), trivial⟩ rfl sl_32 sz_64 zr_64 (fun w D => .cons (.cell _) (.cons (.cell _) (.cons (.cell _) (.cons (.cell _) (.cons (.cell _) (.cons (.cell _) (.cons (.cell _) (.cons (.cell _) (.cons (.cell _) (.cons (.cell _) (.cons (.cell _) (.cons (.cell _) (.cons (.cell _) (.cons (.cell _) (.nil _ _))))))))))))))) rfl rfl rfl rfl rfl) .nil)))))))))) ?_
    refine e_append rfl rfl rfl rfl (kn rfl) rfl (kn rfl) sl_32 ap_32 rfl rfl (by first | omega | (dsimp only; omega) | omega) (by first | omega | (dsimp only; omega) | omega) ?_
    refine l_op (s_faddr_box rfl (kn rfl) off_34_6) ?_
    refine e_store_own rfl rfl rfl (kn rfl) rfl (kn rfl) rfl rfl sz_32 rfl ?_
    refine e_nil ?_
    try refine e_fl ?_
    refine e_plain (w_op rfl rfl rfl (s_bin rfl (kn rfl) (kn rfl) (v_add64 (by first | omega | (dsimp only; omega) | omega))) (w_mv rfl rfl rfl rfl rfl .nil)) ?_
    try refine e_fl ?_
    refine e_again ⟨k + 1, by omega⟩ (by dsimp only; omega) (fun K => e_sub ⟨s_t, s_t, s_t, s_t, s_t, s_t, trivial⟩ ⟨s_b, s_b, s_b, trivial⟩ ⟨rfl, rfl, rowEq rfl rfl (by rw [htk, flatp_one]; rfl), trivial⟩)
  obtain rfl : k = v.pairs.length := by have := of_decide_eq_false h; omega
  try refine e_fl ?_
  refine e_freeze_cell 3 3 100 rfl rfl rfl rfl rfl ?_
  refine e_freeze_cell 3 5 101 rfl rfl rfl rfl rfl ?_
  refine e_freeze_cell 3 6 102 rfl rfl rfl rfl rfl ?_
  dsimp only
  rw [List.take_length, List.take_length, List.take_length]
  refine e_list ?_
  refine l_op (s_loadn_box (ds := [_, _, _, _, _, _, _]) 7 rfl (kn rfl) rfl rfl agg_34 sz_34 rfl) ?_
  refine e_storew rfl rfl rfl (kn rfl) rfl (kn rfl) rfl rfl sz_34 ?_
  refine e_nil ?_
  try refine e_fl ?_
  exact e_return rfl rfl (.cell rfl rfl rfl agg_34 sz_34 rfl (.nil)) (Imp.of_eq rfl) rfl
theorem of_ef (v : Vl) : vnodes v ≤ 1000000 → EF Try.prog [] 9 [.many (vd v)] (.part (.many (vd v))) :=
  rkids_ind (P := fun v => vnodes v ≤ 1000000 → EF Try.prog [] 9 [.many (vd v)] (.part (.many (vd v)))) (fun v ih hn => of_step v hn fun x hx => ih x hx (by have := (rkids_mem hx).2.2; omega)) v
end Go.Proofs.Ytlikbiiimhfnkaa
