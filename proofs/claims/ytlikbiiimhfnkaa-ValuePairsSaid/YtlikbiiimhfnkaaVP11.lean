/- Part 11 of what the last text of this claim is proved by: walks over the program, and the math behind them. Conditions: as each theorem says. -/
import Derived.Test.YtlikbiiimhfnkaaVP10
import Derived.Test.YtlikbiiimhfnkaaProg
namespace Go.Proofs.Ytlikbiiimhfnkaa
open Go.RowKit
def pone (key x : Vl) (s : Bool × List (Vl × Vl)) (f : Vl × Vl) : Bool × List (Vl × Vl) := if s.1 = false ∧ 0 ≤ vcmp f.1 key then (true, s.2 ++ [(key, x)]) else s
def ptwo (key : Vl) (s : Bool × List (Vl × Vl)) (f : Vl × Vl) : Bool × List (Vl × Vl) := if vcmp f.1 key = 0 then s else (s.1, s.2 ++ [f])
def pfold (key x : Vl) (fs : List (Vl × Vl)) : Bool × List (Vl × Vl) := fs.foldl (fun s f => ptwo key (pone key x s f) f) (decide (x.kind = 0), [])
def ppairs (key x : Vl) (fs : List (Vl × Vl)) : List (Vl × Vl) := if (pfold key x fs).1 then (pfold key x fs).2 else (pfold key x fs).2 ++ [(key, x)]
def vput (v key x : Vl) : Vl := if v.kind = 5 ∨ v.kind = 0 then .mk (if 0 < (ppairs key x v.pairs).length then 5 else 0) 0 [] [] [] [] (ppairs key x v.pairs) else v
theorem pfold_take {key x : Vl} {fs : List (Vl × Vl)} {k : Nat} {f : Vl × Vl} (hf : fs[k]? = some f) : pfold key x (fs.take (k + 1)) = ptwo key (pone key x (pfold key x (fs.take k)) f) f := by
  unfold pfold
  rw [List.take_add_one, hf, Option.toList_some, List.foldl_append]
  rfl
abbrev zB : List IV := [.is (.int .i64 0), .is (.int .u64 0), .is (.string ⟨#[]⟩), .is (.slice none 0 0), .is (.string ⟨#[]⟩), .is (.slice none 0 0), .is (.slice none 0 0)]
set_option maxRecDepth 100000 in
set_option maxHeartbeats 4000000 in
theorem put_ef (v key x : Vl) (hv : v.Fine) (hkey : key.Fine) (hlen : v.pairs.length ≤ 1000000) : EF Try.prog [] 25 [.many (vd v), .many (vd key), .many (vd x)] (.part (.many (vd (vput v key x)))) := by
  refine ef_enter 75 Try.func25 rfl rfl rfl fun w D => ?_
  try refine e_fl ?_
  refine e_list ?_
  refine e_box 3 rfl rfl rfl rfl (kn rfl) rfl rfl rfl rfl ?_
  refine e_box 4 rfl rfl rfl rfl (kn rfl) rfl rfl rfl rfl ?_
  refine e_box 5 rfl rfl rfl rfl (kn rfl) rfl rfl rfl rfl ?_
  refine e_alloc 6 [.is (.int .i64 0), .is (.int .u64 0), .is (.string ⟨#[]⟩), .is (.slice none 0 0), .is (.string ⟨#[]⟩), .is (.slice none 0 0), .is (.slice none 0 0)] rfl rfl rfl rfl zr_34 (fun w D M V => ⟨rfl, fun j x v h1 h2 => cfit_is _ h1 h2 rfl⟩) rfl rfl rfl rfl ?_
  refine e_nil ?_
  try refine e_fl ?_
  refine e_plain (w_op rfl rfl rfl (s_faddr_box rfl (kn rfl) off_34_0) (w_op rfl rfl rfl (s_load1_box rfl (kn rfl) rfl rfl one_3) (w_op rfl rfl rfl (s_bin rfl (kn rfl) (kn rfl) v_neq) (w_mv rfl rfl rfl rfl rfl (Walk.gd _ rfl rfl rfl (fun h => s_faddr_box rfl (kn rfl) off_34_0) (Walk.gd _ rfl rfl rfl (fun h => s_load1_box rfl (kn_opt rfl h) rfl rfl one_3) (Walk.gd _ rfl rfl rfl (fun h => s_bin rfl (kn_opt rfl h) (kn rfl) v_neq) (w_op rfl rfl rfl (s_and rfl (kn rfl) (fun hb => kn_opt rfl hb)) .nil)))))))) ?_
  try refine e_fl ?_
  refine e_cond rfl (fun h => ?_) (fun h => ?_)
  · have e : vput v key x = v := if_neg fun hc => by
      simp only [Bool.and_eq_true, Bool.not_eq_true', decide_eq_false_iff_not] at h
      omega
    try refine e_fl ?_
    refine e_list ?_
    refine l_op (s_loadn_box (ds := [_, _, _, _, _, _, _]) 7 rfl (kn rfl) rfl rfl agg_34 sz_34 rfl) ?_
    refine e_storew rfl rfl rfl (kn rfl) rfl (kn rfl) rfl rfl sz_34 ?_
    refine e_nil ?_
    try refine e_fl ?_
    exact e_return rfl rfl (.cell rfl rfl rfl agg_34 sz_34 rfl (.nil)) (Imp.of_eq (by rw [e]; rfl)) rfl
  have e : vput v key x = .mk (if 0 < (ppairs key x v.pairs).length then 5 else 0) 0 [] [] [] [] (ppairs key x v.pairs) := if_pos (by
    simp only [Bool.and_eq_false_iff, Bool.not_eq_false', decide_eq_true_eq] at h
    omega)
  try refine e_fl ?_
  refine e_list ?_
  refine l_op (s_build (ds := [_, _, _, _, _, _, _]) [] rfl trivial rfl pl_34 zr_34 (fun w D => .cons (.cell _) (.cons (.cell _) (.cons (.cell _) (.cons (.cell _) (.cons (.cell _) (.cons (.cell _) (.cons (.cell _) (.nil _ _)))))))) rfl) ?_
  refine e_alloc 7 [.is (.int .i64 0), .is (.int .u64 0), .is (.string ⟨#[]⟩), .is (.slice none 0 0), .is (.string ⟨#[]⟩), .is (.slice none 0 0), .is (.slice none 0 0)] rfl rfl rfl rfl zr_34 (fun w D M V => ⟨rfl, fun j x v h1 h2 => cfit_is _ h1 h2 rfl⟩) rfl rfl rfl rfl ?_
  refine e_storew rfl rfl rfl (kn rfl) rfl (kn rfl) rfl rfl sz_34 ?_
  refine e_nil ?_
  try refine e_fl ?_
  refine e_plain (w_op rfl rfl rfl (s_faddr_box rfl (kn rfl) off_34_0) (w_op rfl rfl rfl (s_load1_box rfl (kn rfl) rfl rfl one_3) (w_op rfl rfl rfl (s_bin rfl (kn rfl) (kn rfl) v_eql) (w_as rfl rfl rfl rfl rfl .nil)))) ?_
  try refine e_fl ?_
  refine e_plain (w_op rfl rfl rfl (s_faddr_box rfl (kn rfl) off_34_6) (w_op rfl rfl rfl (s_load1_box rfl (kn rfl) rfl rfl one_32) (w_op rfl rfl rfl (s_len rfl (kn rfl) sle_32) (w_mv rfl rfl rfl rfl rfl .nil)))) ?_
  try refine e_fl ?_
  refine e_row_cell 7 6 100 64 14 rfl rfl rfl rfl rfl ?_
  refine e_loop (ι := { i : Nat × Bool × List (Vl × Vl) // i.1 ≤ v.pairs.length ∧ pfold key x (v.pairs.take i.1) = i.2 ∧ i.2.2.length ≤ 2 * i.1 })
    (fun i => [(3, .box 3 0), (4, .box 4 0), (5, .box 5 0), (6, .box 6 0), (7, .box 7 0), (8, .is (.bool i.1.2.1)), (26, .part (.one (.row 14 v.pairs.length (v.pairs.flatMap pairDats)))), (27, .is (.int .i64 (v.pairs.length : Int))), (28, .is (.int .i64 (i.1.1 : Int)))])
    (fun _ => [(3, ⟨34, bcs (vd v)⟩), (4, ⟨34, bcs (vd key)⟩), (5, ⟨34, bcs (vd x)⟩), (6, ⟨34, zB⟩), (7, ⟨34, [.is (.int .i64 0), .is (.int .u64 0), .is (.string ⟨#[]⟩), .is (.slice none 0 0), .is (.string ⟨#[]⟩), .is (.slice none 0 0), .own 100]⟩)])
    (fun i => [(100, ⟨64, 14, i.1.2.2.length, i.1.2.2.flatMap pairDats, false⟩)])
    (fun i => v.pairs.length - i.1.1) ⟨(0, decide (x.kind = 0), []), by simp, rfl, by simp⟩
    (fun K => e_sub ⟨s_t, s_t, s_t, s_t, s_t, s_t, s_t, s_t, s_t, trivial⟩ ⟨s_b, s_b, s_b, s_b, s_b, trivial⟩ ⟨rfl, trivial⟩) ?_
  rintro ⟨⟨k, d, acc⟩, hk, hw, ha⟩
  dsimp only at hk hw ha ⊢
  try refine e_fl ?_
  refine e_plain (w_op rfl rfl rfl (s_bin rfl (kn rfl) (kn rfl) v_lss) .nil) ?_
  try refine e_fl ?_
  refine e_cond rfl (fun h => ?_) (fun h => ?_)
  · have hlt : k < v.pairs.length := by simpa using h
    obtain ⟨f, hf⟩ : ∃ f, v.pairs[k]? = some f := ⟨_, List.getElem?_eq_getElem hlt⟩
    have hwt := pfold_take (key := key) (x := x) hf
    rw [hw] at hwt
    try refine e_fl ?_
    refine e_list ?_
    refine l_op (s_index rfl (kn rfl) (kn rfl) (by omega) hf pairDats_len sle_32 esz_32 (pairDats_vd f)) ?_
    refine l_op (s_loadn_ref rfl (kn rfl) agg_64 sz_64) ?_
    refine e_alloc 10 [.is (.int .i64 0), .is (.int .u64 0), .is (.string ⟨#[]⟩), .is (.slice none 0 0), .is (.string ⟨#[]⟩), .is (.slice none 0 0), .is (.slice none 0 0), .is (.int .i64 0), .is (.int .u64 0), .is (.string ⟨#[]⟩), .is (.slice none 0 0), .is (.string ⟨#[]⟩), .is (.slice none 0 0), .is (.slice none 0 0)] rfl rfl rfl rfl zr_64 (fun w D M V => ⟨rfl, fun j x v h1 h2 => cfit_is _ h1 h2 rfl⟩) rfl rfl rfl rfl ?_
    refine e_storew rfl rfl rfl (kn rfl) rfl (kn rfl) rfl rfl sz_64 ?_
    refine e_nil ?_
    try refine e_fl ?_
    refine e_plain (w_op rfl rfl rfl (s_faddr_box rfl (kn rfl) off_64_0) (w_op rfl rfl rfl (s_loadn_box (ds := [_, _, _, _, _, _, _]) 7 rfl (kn rfl) rfl rfl agg_34 sz_34 rfl) (w_op rfl rfl rfl (s_loadn_box (ds := [_, _, _, _, _, _, _]) 7 rfl (kn rfl) rfl rfl agg_34 sz_34 rfl) (w_op rfl rfl rfl (s_call rfl (by kernel_rfl) (cmp_ef f.1 (hv.pair (List.mem_of_getElem? hf)).1 key hkey) ⟨(kn rfl), ⟨(kn rfl), trivial⟩⟩) (w_as rfl rfl rfl rfl rfl .nil))))) ?_
    try refine e_fl ?_
    refine e_plain (w_mv rfl rfl rfl rfl rfl (w_op rfl rfl rfl (s_not rfl (kn rfl)) (w_mv rfl rfl rfl rfl rfl (Walk.gd _ rfl rfl rfl (fun h => s_move rfl (kn rfl)) (Walk.gd _ rfl rfl rfl (fun h => s_bin rfl (kn_opt rfl h) (kn rfl) v_geq) (w_op rfl rfl rfl (s_and rfl (kn rfl) (fun hb => kn_opt rfl hb)) .nil)))))) ?_
    try refine e_fl ?_
    refine e_cond rfl (fun h1 => ?_) (fun h1 => ?_)
    · obtain ⟨rfl, h2⟩ : d = false ∧ 0 ≤ vcmp f.1 key := by
        simpa using h1
      have w1 : pone key x (false, acc) f = (true, acc ++ [(key, x)]) := if_pos ⟨rfl, h2⟩
      try refine e_fl ?_
      refine e_list ?_
      refine l_op (s_faddr_box rfl (kn rfl) off_34_6) ?_
      refine l_op (s_load1_box rfl (kn rfl) rfl rfl one_32) ?_
      refine l_op (s_loadn_box (ds := [_, _, _, _, _, _, _]) 7 rfl (kn rfl) rfl rfl agg_34 sz_34 rfl) ?_
      refine l_op (s_loadn_box (ds := [_, _, _, _, _, _, _]) 7 rfl (kn rfl) rfl rfl agg_34 sz_34 rfl) ?_
      refine l_op (s_build (ds := [_, _, _, _, _, _, _, _, _, _, _, _, _, _]) [(0, _), (1, _)] rfl ⟨rfl, (kn rfl), ⟨rfl, (kn rfl), trivial⟩⟩ rfl pl_64 zr_64 (fun w D => .cons (.cell _) (.cons (.cell _) (.cons (.cell _) (.cons (.cell _) (.cons (.cell _) (.cons (.cell _) (.cons (.cell _) (.cons (.cell _) (.cons (.cell _) (.cons (.cell _) (.cons (.cell _) (.cons (.cell _) (.cons (.cell _) (.cons (.cell _) (.nil _ _))))))))))))))) rfl) ?_
      refine l_op (s_buildSlice (ds := [_, _, _, _, _, _, _, _, _, _, _, _, _, _]) [(0, _)] rfl ⟨rfl, (kn rfl), trivial⟩ rfl sl_32 sz_64 zr_64 (fun w D => .cons (.cell _) (.cons (.cell _) (.cons (.cell _) (.cons (.cell _) (.cons (.cell _) (.cons (.cell _) (.cons (.cell _) (.cons (.cell _) (.cons (.cell _) (.cons (.cell _) (.cons (.cell _) (.cons (.cell _) (.cons (.cell _) (.cons (.cell _) (.nil _ _))))))))))))))) rfl rfl rfl rfl rfl) ?_
      refine e_append rfl rfl rfl rfl (kn rfl) rfl (kn rfl) sl_32 ap_32 rfl rfl (by first | omega | (dsimp only; omega) | omega) (by first | omega | (dsimp only; omega) | omega) ?_
      refine l_op (s_faddr_box rfl (kn rfl) off_34_6) ?_
      refine e_store_own rfl rfl rfl (kn rfl) rfl (kn rfl) rfl rfl sz_32 rfl ?_
      refine e_nil ?_
      try refine e_fl ?_
      refine e_plain (w_as rfl rfl rfl rfl rfl .nil) ?_
      try refine e_fl ?_
      refine e_plain (w_mv rfl rfl rfl rfl rfl (w_op rfl rfl rfl (s_bin rfl (kn rfl) (kn rfl) v_neq) .nil)) ?_
      try refine e_fl ?_
      refine e_cond rfl (fun h3 => ?_) (fun h3 => ?_)
      · have h4 : ¬ vcmp f.1 key = 0 := by simpa using h3
        try refine e_fl ?_
        refine e_list ?_
        refine l_op (s_faddr_box rfl (kn rfl) off_34_6) ?_
        refine l_op (s_load1_box rfl (kn rfl) rfl rfl one_32) ?_
        refine l_op (s_loadn_box (ds := [_, _, _, _, _, _, _, _, _, _, _, _, _, _]) 14 rfl (kn rfl) rfl rfl agg_64 sz_64 rfl) ?_
        refine l_op (s_buildSlice (ds := [_, _, _, _, _, _, _, _, _, _, _, _, _, _]) [(0, _)] rfl ⟨rfl, (kn rfl), trivial⟩ rfl sl_32 sz_64 zr_64 (fun w D => .cons (.cell _) (.cons (.cell _) (.cons (.cell _) (.cons (.cell _) (.cons (.cell _) (.cons (.cell _) (.cons (.cell _) (.cons (.cell _) (.cons (.cell _) (.cons (.cell _) (.cons (.cell _) (.cons (.cell _) (.cons (.cell _) (.cons (.cell _) (.nil _ _))))))))))))))) rfl rfl rfl rfl rfl) ?_
        refine e_append rfl rfl rfl rfl (kn rfl) rfl (kn rfl) sl_32 ap_32 rfl rfl (by first | omega | (dsimp only; omega) | omega) (by first | omega | (dsimp only; omega) | omega) ?_
        refine l_op (s_faddr_box rfl (kn rfl) off_34_6) ?_
        refine e_store_own rfl rfl rfl (kn rfl) rfl (kn rfl) rfl rfl sz_32 rfl ?_
        refine e_nil ?_
        try refine e_fl ?_
        refine e_plain (w_op rfl rfl rfl (s_bin rfl (kn rfl) (kn rfl) (v_add64 (by first | omega | (dsimp only; omega) | omega))) (w_mv rfl rfl rfl rfl rfl .nil)) ?_
        try refine e_fl ?_
        refine e_again ⟨(k + 1, true, (acc ++ [(key, x)]) ++ [f]), by omega, by rw [hwt]; (rw [w1]; exact if_neg h4), by first | omega | (simp only [List.length_append, List.length_cons, List.length_nil]; omega)⟩ (by dsimp only; omega) (fun K => e_sub ⟨s_t, s_t, s_t, s_t, s_t, s_t, s_t, s_t, s_t, trivial⟩ ⟨s_b, s_b, s_b, s_b, s_b, trivial⟩ ⟨by first | rfl | exact rowEq rfl (by simp) (by simp [List.flatMap_append, pairDats_vd, vd]), trivial⟩)
      · have h4 : vcmp f.1 key = 0 := by simpa using h3
        try refine e_fl ?_
        refine e_plain (w_op rfl rfl rfl (s_bin rfl (kn rfl) (kn rfl) (v_add64 (by first | omega | (dsimp only; omega) | omega))) (w_mv rfl rfl rfl rfl rfl .nil)) ?_
        try refine e_fl ?_
        refine e_again ⟨(k + 1, true, acc ++ [(key, x)]), by omega, by rw [hwt]; (rw [w1]; exact if_pos h4), by first | omega | (simp only [List.length_append, List.length_cons, List.length_nil]; omega)⟩ (by dsimp only; omega) (fun K => e_sub ⟨s_t, s_t, s_t, s_t, s_t, s_t, s_t, s_t, s_t, trivial⟩ ⟨s_b, s_b, s_b, s_b, s_b, trivial⟩ ⟨by first | rfl | exact rowEq rfl (by simp) (by simp [List.flatMap_append, pairDats_vd, vd]), trivial⟩)
    · have w1 : pone key x (d, acc) f = (d, acc) := if_neg fun hc => by
        rw [show d = false from hc.1, decide_eq_true (show 0 ≤ vcmp f.1 key from hc.2)] at h1
        cases h1
      try refine e_fl ?_
      refine e_plain (w_mv rfl rfl rfl rfl rfl (w_op rfl rfl rfl (s_bin rfl (kn rfl) (kn rfl) v_neq) .nil)) ?_
      try refine e_fl ?_
      refine e_cond rfl (fun h3 => ?_) (fun h3 => ?_)
      · have h4 : ¬ vcmp f.1 key = 0 := by simpa using h3
        try refine e_fl ?_
        refine e_list ?_
        refine l_op (s_faddr_box rfl (kn rfl) off_34_6) ?_
        refine l_op (s_load1_box rfl (kn rfl) rfl rfl one_32) ?_
        refine l_op (s_loadn_box (ds := [_, _, _, _, _, _, _, _, _, _, _, _, _, _]) 14 rfl (kn rfl) rfl rfl agg_64 sz_64 rfl) ?_
        refine l_op (s_buildSlice (ds := [_, _, _, _, _, _, _, _, _, _, _, _, _, _]) [(0, _)] rfl ⟨rfl, (kn rfl), trivial⟩ rfl sl_32 sz_64 zr_64 (fun w D => .cons (.cell _) (.cons (.cell _) (.cons (.cell _) (.cons (.cell _) (.cons (.cell _) (.cons (.cell _) (.cons (.cell _) (.cons (.cell _) (.cons (.cell _) (.cons (.cell _) (.cons (.cell _) (.cons (.cell _) (.cons (.cell _) (.cons (.cell _) (.nil _ _))))))))))))))) rfl rfl rfl rfl rfl) ?_
        refine e_append rfl rfl rfl rfl (kn rfl) rfl (kn rfl) sl_32 ap_32 rfl rfl (by first | omega | (dsimp only; omega) | omega) (by first | omega | (dsimp only; omega) | omega) ?_
        refine l_op (s_faddr_box rfl (kn rfl) off_34_6) ?_
        refine e_store_own rfl rfl rfl (kn rfl) rfl (kn rfl) rfl rfl sz_32 rfl ?_
        refine e_nil ?_
        try refine e_fl ?_
        refine e_plain (w_op rfl rfl rfl (s_bin rfl (kn rfl) (kn rfl) (v_add64 (by first | omega | (dsimp only; omega) | omega))) (w_mv rfl rfl rfl rfl rfl .nil)) ?_
        try refine e_fl ?_
        refine e_again ⟨(k + 1, d, acc ++ [f]), by omega, by rw [hwt]; (rw [w1]; exact if_neg h4), by first | omega | (simp only [List.length_append, List.length_cons, List.length_nil]; omega)⟩ (by dsimp only; omega) (fun K => e_sub ⟨s_t, s_t, s_t, s_t, s_t, s_t, s_t, s_t, s_t, trivial⟩ ⟨s_b, s_b, s_b, s_b, s_b, trivial⟩ ⟨by first | rfl | exact rowEq rfl (by simp) (by simp [List.flatMap_append, pairDats_vd, vd]), trivial⟩)
      · have h4 : vcmp f.1 key = 0 := by simpa using h3
        try refine e_fl ?_
        refine e_plain (w_op rfl rfl rfl (s_bin rfl (kn rfl) (kn rfl) (v_add64 (by first | omega | (dsimp only; omega) | omega))) (w_mv rfl rfl rfl rfl rfl .nil)) ?_
        try refine e_fl ?_
        refine e_again ⟨(k + 1, d, acc), by omega, by rw [hwt]; (rw [w1]; exact if_pos h4), by first | omega | (simp only [List.length_append, List.length_cons, List.length_nil]; omega)⟩ (by dsimp only; omega) (fun K => e_sub ⟨s_t, s_t, s_t, s_t, s_t, s_t, s_t, s_t, s_t, trivial⟩ ⟨s_b, s_b, s_b, s_b, s_b, trivial⟩ ⟨by first | rfl | exact rowEq rfl (by simp) (by simp [List.flatMap_append, pairDats_vd, vd]), trivial⟩)
  obtain rfl : k = v.pairs.length := by
    have : ¬ k < v.pairs.length := by simpa using h
    omega
  rw [List.take_length] at hw
  try refine e_fl ?_
  refine e_plain (w_mv rfl rfl rfl rfl rfl (w_op rfl rfl rfl (s_not rfl (kn rfl)) .nil)) ?_
  try refine e_fl ?_
  refine e_cond rfl (fun h1 => ?_) (fun h1 => ?_)
  · obtain rfl : d = false := by simpa using h1
    have hv2 : ppairs key x v.pairs = acc ++ [(key, x)] := by unfold ppairs; rw [hw]; rfl
    try refine e_fl ?_
    refine e_list ?_
    refine l_op (s_faddr_box rfl (kn rfl) off_34_6) ?_
    refine l_op (s_load1_box rfl (kn rfl) rfl rfl one_32) ?_
    refine l_op (s_loadn_box (ds := [_, _, _, _, _, _, _]) 7 rfl (kn rfl) rfl rfl agg_34 sz_34 rfl) ?_
    refine l_op (s_loadn_box (ds := [_, _, _, _, _, _, _]) 7 rfl (kn rfl) rfl rfl agg_34 sz_34 rfl) ?_
    refine l_op (s_build (ds := [_, _, _, _, _, _, _, _, _, _, _, _, _, _]) [(0, _), (1, _)] rfl ⟨rfl, (kn rfl), ⟨rfl, (kn rfl), trivial⟩⟩ rfl pl_64 zr_64 (fun w D => .cons (.cell _) (.cons (.cell _) (.cons (.cell _) (.cons (.cell _) (.cons (.cell _) (.cons (.cell _) (.cons (.cell _) (.cons (.cell _) (.cons (.cell _) (.cons (.cell _) (.cons (.cell _) (.cons (.cell _) (.cons (.cell _) (.cons (.cell _) (.nil _ _))))))))))))))) rfl) ?_
    refine l_op (s_buildSlice (ds := [_, _, _, _, _, _, _, _, _, _, _, _, _, _]) [(0, _)] rfl ⟨rfl, (kn rfl), trivial⟩ rfl sl_32 sz_64 zr_64 (fun w D => .cons (.cell _) (.cons (.cell _) (.cons (.cell _) (.cons (.cell _) (.cons (.cell _) (.cons (.cell _) (.cons (.cell _) (.cons (.cell _) (.cons (.cell _) (.cons (.cell _) (.cons (.cell _) (.cons (.cell _) (.cons (.cell _) (.cons (.cell _) (.nil _ _))))))))))))))) rfl rfl rfl rfl rfl) ?_
    refine e_append rfl rfl rfl rfl (kn rfl) rfl (kn rfl) sl_32 ap_32 rfl rfl (by first | omega | (dsimp only; omega) | omega) (by first | omega | (dsimp only; omega) | omega) ?_
    refine l_op (s_faddr_box rfl (kn rfl) off_34_6) ?_
    refine e_store_own rfl rfl rfl (kn rfl) rfl (kn rfl) rfl rfl sz_32 rfl ?_
    refine e_nil ?_
    try refine e_fl ?_
    refine e_plain (w_op rfl rfl rfl (s_faddr_box rfl (kn rfl) off_34_6) (w_op rfl rfl rfl (s_load1_box rfl (kn rfl) rfl rfl one_32) (w_op rfl rfl rfl (s_len_own rfl (kn rfl) rfl sle_32) (w_op rfl rfl rfl (s_bin rfl (kn rfl) (kn rfl) v_gtr) .nil)))) ?_
    try refine e_fl ?_
    refine e_cond rfl (fun h2 => ?_) (fun h2 => ?_)
    · try refine e_fl ?_
      refine e_list ?_
      refine l_op (s_faddr_box rfl (kn rfl) off_34_0) ?_
      refine e_store1 rfl rfl rfl (kn rfl) rfl (kn rfl) rfl rfl sz_3 rfl ?_
      refine e_nil ?_
      try refine e_fl ?_
      refine e_freeze_cell 7 6 100 rfl rfl rfl rfl rfl ?_
      refine e_list ?_
      refine l_op (s_loadn_box (ds := [_, _, _, _, _, _, _]) 7 rfl (kn rfl) rfl rfl agg_34 sz_34 rfl) ?_
      refine e_storew rfl rfl rfl (kn rfl) rfl (kn rfl) rfl rfl sz_34 ?_
      refine e_nil ?_
      try refine e_fl ?_
      exact e_return rfl rfl (.cell rfl rfl rfl agg_34 sz_34 rfl (.nil)) (Imp.many (by rw [e, hv2, if_pos (by simp)]; exact ⟨DImp.refl _, DImp.refl _, DImp.refl _, DImp.nil 8, DImp.refl _, DImp.nil 7, DImp.of_eq (by simp [List.flatMap_append, pairDats_vd, Vl.pairs, vd]), trivial⟩)) rfl
    · have := of_decide_eq_false h2
      dsimp only at this
      omega
  · obtain rfl : d = true := by simpa using h1
    have hv2 : ppairs key x v.pairs = acc := by unfold ppairs; rw [hw]; rfl
    try refine e_fl ?_
    refine e_plain (w_op rfl rfl rfl (s_faddr_box rfl (kn rfl) off_34_6) (w_op rfl rfl rfl (s_load1_box rfl (kn rfl) rfl rfl one_32) (w_op rfl rfl rfl (s_len_own rfl (kn rfl) rfl sle_32) (w_op rfl rfl rfl (s_bin rfl (kn rfl) (kn rfl) v_gtr) .nil)))) ?_
    try refine e_fl ?_
    refine e_cond rfl (fun h2 => ?_) (fun h2 => ?_)
    · try refine e_fl ?_
      refine e_list ?_
      refine l_op (s_faddr_box rfl (kn rfl) off_34_0) ?_
      refine e_store1 rfl rfl rfl (kn rfl) rfl (kn rfl) rfl rfl sz_3 rfl ?_
      refine e_nil ?_
      try refine e_fl ?_
      refine e_freeze_cell 7 6 100 rfl rfl rfl rfl rfl ?_
      refine e_list ?_
      refine l_op (s_loadn_box (ds := [_, _, _, _, _, _, _]) 7 rfl (kn rfl) rfl rfl agg_34 sz_34 rfl) ?_
      refine e_storew rfl rfl rfl (kn rfl) rfl (kn rfl) rfl rfl sz_34 ?_
      refine e_nil ?_
      try refine e_fl ?_
      exact e_return rfl rfl (.cell rfl rfl rfl agg_34 sz_34 rfl (.nil)) (Imp.many (by rw [e, hv2, if_pos (by have := of_decide_eq_true h2; dsimp only at this; omega)]; exact ⟨DImp.refl _, DImp.refl _, DImp.refl _, DImp.nil 8, DImp.refl _, DImp.nil 7, DImp.of_eq rfl, trivial⟩)) rfl
    · try refine e_fl ?_
      refine e_freeze_cell 7 6 100 rfl rfl rfl rfl rfl ?_
      refine e_list ?_
      refine l_op (s_loadn_box (ds := [_, _, _, _, _, _, _]) 7 rfl (kn rfl) rfl rfl agg_34 sz_34 rfl) ?_
      refine e_storew rfl rfl rfl (kn rfl) rfl (kn rfl) rfl rfl sz_34 ?_
      refine e_nil ?_
      try refine e_fl ?_
      exact e_return rfl rfl (.cell rfl rfl rfl agg_34 sz_34 rfl (.nil)) (Imp.many (by rw [e, hv2, if_neg (by have := of_decide_eq_false h2; dsimp only at this; omega)]; exact ⟨DImp.refl _, DImp.refl _, DImp.refl _, DImp.nil 8, DImp.refl _, DImp.nil 7, DImp.of_eq rfl, trivial⟩)) rfl
end Go.Proofs.Ytlikbiiimhfnkaa
namespace Go.Proofs.Ytlikbiiimhfnkaa
open Go.RowKit
theorem flatf_one (l : List (Int × Vl)) (x : Int × Vl) : (l ++ [x]).flatMap fieldDats = l.flatMap fieldDats ++ (.cell (.int .i64 x.1) :: vd x.2) := by rw [List.flatMap_append, ← fieldDats_vd]; simp
theorem flatp_one (l : List (Vl × Vl)) (x : Vl × Vl) : (l ++ [x]).flatMap pairDats = l.flatMap pairDats ++ (vd x.1 ++ vd x.2) := by rw [List.flatMap_append, ← pairDats_vd]; simp
abbrev ofB (v : Vl) : BL := [(1, ⟨27, bcs (vd v)⟩), (2, ⟨34, zB⟩), (3, ⟨34, [.is (.int .i64 v.kind), .is (.int .u64 (v.num : Int)), .is (.string (str v.text)), .own 100, .is (.string (str v.rest)), .own 101, .own 102]⟩)]
abbrev ofR (v : Vl) (f l p : Nat) : RL := [(100, ⟨60, 8, f, (v.fields.take f).flatMap fieldDats, false⟩), (101, ⟨34, 7, l, (v.list.take l).flatMap Vl.dats, false⟩), (102, ⟨64, 14, p, (v.pairs.take p).flatMap pairDats, false⟩)]
set_option maxRecDepth 100000 in
set_option maxHeartbeats 4000000 in
theorem of_step (v : Vl) (hn : vnodes v ≤ 1000000) (ih : ∀ x ∈ rkids v, EF Try.prog [] 9 [.many (vd x)] (.part (.many (vd x)))) : EF Try.prog [] 9 [.many (vd v)] (.part (.many (vd v))) := by
  have hlen := rkids_len v hn
  have ihf : ∀ f ∈ v.fields, f.2 ∈ rkids v := fun f h => by unfold rkids; exact List.mem_append_left _ (List.mem_append_right _ (List.mem_map.2 ⟨f, h, rfl⟩))
  have ihl : ∀ f ∈ v.list, f ∈ rkids v := fun f h => by unfold rkids; exact List.mem_append_left _ (List.mem_append_left _ h)
  have ihp : ∀ p ∈ v.pairs, p.1 ∈ rkids v ∧ p.2 ∈ rkids v := fun p h => by
    unfold rkids gpairs
    exact ⟨List.mem_append_right _ (List.mem_flatMap.2 ⟨p, h, by simp⟩), List.mem_append_right _ (List.mem_flatMap.2 ⟨p, h, by simp⟩)⟩
  refine ef_enter 74 Try.func9 rfl rfl rfl fun w D => ?_
  try refine e_fl ?_
  refine e_list ?_
  refine e_box 1 rfl rfl rfl rfl (kn rfl) rfl rfl rfl rfl ?_
  refine e_alloc 2 [.is (.int .i64 0), .is (.int .u64 0), .is (.string ⟨#[]⟩), .is (.slice none 0 0), .is (.string ⟨#[]⟩), .is (.slice none 0 0), .is (.slice none 0 0)] rfl rfl rfl rfl zr_34 (fun w D M V => ⟨rfl, fun j x v h1 h2 => cfit_is _ h1 h2 rfl⟩) rfl rfl rfl rfl ?_
  refine e_nil ?_
  try refine e_fl ?_
  refine e_list ?_
  refine l_op (s_faddr_box rfl (kn rfl) off_27_0) ?_
  refine l_op (s_load1_box rfl (kn rfl) rfl rfl one_3) ?_
  refine l_op (s_faddr_box rfl (kn rfl) off_27_1) ?_
  refine l_op (s_load1_box rfl (kn rfl) rfl rfl one_22) ?_
  refine l_op (s_faddr_box rfl (kn rfl) off_27_2) ?_
  refine l_op (s_load1_box rfl (kn rfl) rfl rfl one_9) ?_
  refine l_op (s_faddr_box rfl (kn rfl) off_27_4) ?_
  refine l_op (s_load1_box rfl (kn rfl) rfl rfl one_9) ?_
  refine l_op (s_build (ds := [_, _, _, _, _, _, _]) [(0, _), (1, _), (2, _), (4, _)] rfl ⟨rfl, (kn rfl), ⟨rfl, (kn rfl), ⟨rfl, (kn rfl), ⟨rfl, (kn rfl), trivial⟩⟩⟩⟩ rfl pl_34 zr_34 (fun w D => .cons (.cell _) (.cons (.cell _) (.cons (.cell _) (.cons (.cell _) (.cons (.cell _) (.cons (.cell _) (.cons (.cell _) (.nil _ _)))))))) rfl) ?_
  refine e_alloc 3 [.is (.int .i64 0), .is (.int .u64 0), .is (.string ⟨#[]⟩), .is (.slice none 0 0), .is (.string ⟨#[]⟩), .is (.slice none 0 0), .is (.slice none 0 0)] rfl rfl rfl rfl zr_34 (fun w D M V => ⟨rfl, fun j x v h1 h2 => cfit_is _ h1 h2 rfl⟩) rfl rfl rfl rfl ?_
  refine e_storew rfl rfl rfl (kn rfl) rfl (kn rfl) rfl rfl sz_34 ?_
  refine e_nil ?_
  try refine e_fl ?_
  refine e_row_cell 3 3 100 60 8 rfl rfl rfl rfl rfl ?_
  refine e_row_cell 3 5 101 34 7 rfl rfl rfl rfl rfl ?_
  refine e_row_cell 3 6 102 64 14 rfl rfl rfl rfl rfl ?_
  refine e_plain (w_op rfl rfl rfl (s_faddr_box rfl (kn rfl) off_27_3) (w_op rfl rfl rfl (s_load1_box rfl (kn rfl) rfl rfl one_23) (w_op rfl rfl rfl (s_len rfl (kn rfl) sle_23) (w_mv rfl rfl rfl rfl rfl .nil)))) ?_
  try refine e_fl ?_
  refine e_loop (ι := { k : Nat // k ≤ v.fields.length })
    (fun k => [(1, .box 1 0), (2, .box 2 0), (3, .box 3 0), (20, .part (.one (.row 8 v.fields.length (v.fields.flatMap fieldDats)))), (21, .is (.int .i64 (v.fields.length : Int))), (22, .is (.int .i64 (k.1 : Int)))])
    (fun _ => ofB v) (fun k => ofR v k.1 0 0) (fun k => v.fields.length - k.1) ⟨0, by omega⟩
    (fun K => e_sub ⟨s_t, s_t, s_t, s_t, s_t, s_t, trivial⟩ ⟨s_b, s_b, s_b, trivial⟩ ⟨rfl, rfl, rfl, trivial⟩) ?_
  rintro ⟨k, hk⟩
  dsimp only at hk ⊢
  try refine e_fl ?_
  refine e_plain (w_op rfl rfl rfl (s_bin rfl (kn rfl) (kn rfl) v_lss) .nil) ?_
  try refine e_fl ?_
  refine e_cond rfl (fun h => ?_) (fun h => ?_)
  · have hlt : k < v.fields.length := by have := of_decide_eq_true h; omega
    obtain ⟨x, hx⟩ : ∃ x, v.fields[k]? = some x := ⟨_, List.getElem?_eq_getElem hlt⟩
    have htk : v.fields.take (k + 1) = v.fields.take k ++ [x] := by rw [List.take_add_one, hx]; rfl
    try refine e_fl ?_
    refine e_list ?_
    refine l_op (s_index rfl (kn rfl) (kn rfl) (by omega) hx fieldDats_len sle_23 esz_23 (fieldDats_vd x)) ?_
    refine l_op (s_loadn_ref rfl (kn rfl) agg_58 sz_58) ?_
    refine e_alloc 5 [.is (.int .i64 0), .is (.int .i64 0), .is (.int .u64 0), .is (.string ⟨#[]⟩), .is (.slice none 0 0), .is (.string ⟨#[]⟩), .is (.slice none 0 0), .is (.slice none 0 0)] rfl rfl rfl rfl zr_58 (fun w D M V => ⟨rfl, fun j x v h1 h2 => cfit_is _ h1 h2 rfl⟩) rfl rfl rfl rfl ?_
    refine e_storew rfl rfl rfl (kn rfl) rfl (kn rfl) rfl rfl sz_58 ?_
    refine e_nil ?_
    try refine e_fl ?_
    refine e_draw_tail 9 mixed (by kernel_rfl) (w_op rfl rfl rfl (s_faddr_box rfl (kn rfl) off_34_3) (w_op rfl rfl rfl (s_load1_box rfl (kn rfl) rfl rfl one_30) (w_op rfl rfl rfl (s_faddr_box rfl (kn rfl) off_58_0) (w_op rfl rfl rfl (s_load1_box rfl (kn rfl) rfl rfl one_3) (w_op rfl rfl rfl (s_faddr_box rfl (kn rfl) off_58_1) (w_op rfl rfl rfl (s_loadn_box (ds := [_, _, _, _, _, _, _]) 7 rfl (kn rfl) rfl rfl agg_27 sz_27 rfl) (w_op rfl rfl rfl (s_call rfl (by kernel_rfl) (ih x.2 (ihf x (List.mem_of_getElem? hx))) ⟨(kn rfl), trivial⟩) (w_op rfl rfl rfl (s_build (ds := [_, _, _, _, _, _, _, _]) [(0, _), (1, _)] rfl ⟨rfl, (kn rfl), ⟨rfl, (kn rfl), trivial⟩⟩ rfl pl_60 zr_60 (fun w D => .cons (.cell _) (.cons (.cell _) (.cons (.cell _) (.cons (.cell _) (.cons (.cell _) (.cons (.cell _) (.cons (.cell _) (.cons (.cell _) (.nil _ _))))))))) rfl) (w_op rfl rfl rfl (s_buildSlice (ds := [_, _, _, _, _, _, _, _]) [(0, _)] rfl ⟨rfl, (kn rfl), trivial⟩ rfl sl_30 sz_60 zr_60 (fun w D => .cons (.cell _) (.cons (.cell _) (.cons (.cell _) (.cons (.cell _) (.cons (.cell _) (.cons (.cell _) (.cons (.cell _) (.cons (.cell _) (.nil _ _))))))))) rfl rfl rfl rfl rfl) .nil))))))))) ?_
    refine e_append rfl rfl rfl rfl (kn rfl) rfl (kn rfl) sl_30 ap_30 rfl rfl (by first | omega | (dsimp only; omega) | omega) (by first | omega | (dsimp only; omega) | omega) ?_
    refine l_op (s_faddr_box rfl (kn rfl) off_34_3) ?_
    refine e_store_own rfl rfl rfl (kn rfl) rfl (kn rfl) rfl rfl sz_30 rfl ?_
    refine e_nil ?_
    try refine e_fl ?_
    refine e_plain (w_op rfl rfl rfl (s_bin rfl (kn rfl) (kn rfl) (v_add64 (by first | omega | (dsimp only; omega) | omega))) (w_mv rfl rfl rfl rfl rfl .nil)) ?_
    try refine e_fl ?_
    refine e_again ⟨k + 1, by omega⟩ (by dsimp only; omega) (fun K => e_sub ⟨s_t, s_t, s_t, s_t, s_t, s_t, trivial⟩ ⟨s_b, s_b, s_b, trivial⟩ ⟨rowEq rfl rfl (by rw [htk, flatf_one]; rfl), rfl, rfl, trivial⟩)
  obtain rfl : k = v.fields.length := by have := of_decide_eq_false h; omega
  try refine e_fl ?_
  refine e_plain (w_op rfl rfl rfl (s_faddr_box rfl (kn rfl) off_27_5) (w_op rfl rfl rfl (s_load1_box rfl (kn rfl) rfl rfl one_24) (w_op rfl rfl rfl (s_len rfl (kn rfl) sle_24) (w_mv rfl rfl rfl rfl rfl .nil)))) ?_
  try refine e_fl ?_
  refine e_loop (ι := { k : Nat // k ≤ v.list.length })
    (fun k => [(1, .box 1 0), (2, .box 2 0), (3, .box 3 0), (39, .part (lP v.list)), (40, .is (.int .i64 (v.list.length : Int))), (41, .is (.int .i64 (k.1 : Int)))])
    (fun _ => ofB v) (fun k => ofR v v.fields.length k.1 0) (fun k => v.list.length - k.1) ⟨0, by omega⟩
    (fun K => e_sub ⟨s_t, s_t, s_t, s_t, s_t, s_t, trivial⟩ ⟨s_b, s_b, s_b, trivial⟩ ⟨rfl, rfl, rfl, trivial⟩) ?_
  rintro ⟨k, hk⟩
  dsimp only at hk ⊢
  try refine e_fl ?_
  refine e_plain (w_op rfl rfl rfl (s_bin rfl (kn rfl) (kn rfl) v_lss) .nil) ?_
  try refine e_fl ?_
  refine e_cond rfl (fun h => ?_) (fun h => ?_)
  · have hlt : k < v.list.length := by have := of_decide_eq_true h; omega
    obtain ⟨x, hx⟩ : ∃ x, v.list[k]? = some x := ⟨_, List.getElem?_eq_getElem hlt⟩
    have htk : v.list.take (k + 1) = v.list.take k ++ [x] := by rw [List.take_add_one, hx]; rfl
    try refine e_fl ?_
    refine e_list ?_
    refine l_op (s_index rfl (kn rfl) (kn rfl) (by omega) hx Vl.dats_len sle_24 esz_24 (dats_vd x)) ?_
    refine l_op (s_loadn_ref rfl (kn rfl) agg_27 sz_27) ?_
    refine e_alloc 7 [.is (.int .i64 0), .is (.int .u64 0), .is (.string ⟨#[]⟩), .is (.slice none 0 0), .is (.string ⟨#[]⟩), .is (.slice none 0 0), .is (.slice none 0 0)] rfl rfl rfl rfl zr_27 (fun w D M V => ⟨rfl, fun j x v h1 h2 => cfit_is _ h1 h2 rfl⟩) rfl rfl rfl rfl ?_
    refine e_storew rfl rfl rfl (kn rfl) rfl (kn rfl) rfl rfl sz_27 ?_
    refine e_nil ?_
    try refine e_fl ?_
    refine e_draw_tail 5 mixed (by kernel_rfl) (w_op rfl rfl rfl (s_faddr_box rfl (kn rfl) off_34_5) (w_op rfl rfl rfl (s_load1_box rfl (kn rfl) rfl rfl one_31) (w_op rfl rfl rfl (s_loadn_box (ds := [_, _, _, _, _, _, _]) 7 rfl (kn rfl) rfl rfl agg_27 sz_27 rfl) (w_op rfl rfl rfl (s_call rfl (by kernel_rfl) (ih x (ihl x (List.mem_of_getElem? hx))) ⟨(kn rfl), trivial⟩) (w_op rfl rfl rfl (s_buildSlice (ds := [_, _, _, _, _, _, _]) [(0, _)] rfl ⟨rfl, (kn rfl), trivial⟩ rfl sl_31 sz_34 zr_34 (fun w D => .cons (.cell _) (.cons (.cell _) (.cons (.cell _) (.cons (.cell _) (.cons (.cell _) (.cons (.cell _) (.cons (.cell _) (.nil _ _)))))))) rfl rfl rfl rfl rfl) .nil))))) ?_
    refine e_append rfl rfl rfl rfl (kn rfl) rfl (kn rfl) sl_31 ap_31 rfl rfl (by first | omega | (dsimp only; omega) | omega) (by first | omega | (dsimp only; omega) | omega) ?_
    refine l_op (s_faddr_box rfl (kn rfl) off_34_5) ?_
    refine e_store_own rfl rfl rfl (kn rfl) rfl (kn rfl) rfl rfl sz_31 rfl ?_
    refine e_nil ?_
    try refine e_fl ?_
    refine e_plain (w_op rfl rfl rfl (s_bin rfl (kn rfl) (kn rfl) (v_add64 (by first | omega | (dsimp only; omega) | omega))) (w_mv rfl rfl rfl rfl rfl .nil)) ?_
    try refine e_fl ?_
    refine e_again ⟨k + 1, by omega⟩ (by dsimp only; omega) (fun K => e_sub ⟨s_t, s_t, s_t, s_t, s_t, s_t, trivial⟩ ⟨s_b, s_b, s_b, trivial⟩ ⟨rfl, rowEq rfl rfl (by rw [htk, flat_one]; rfl), rfl, trivial⟩)
  obtain rfl : k = v.list.length := by have := of_decide_eq_false h; omega
  try refine e_fl ?_
  refine e_plain (w_op rfl rfl rfl (s_faddr_box rfl (kn rfl) off_27_6) (w_op rfl rfl rfl (s_load1_box rfl (kn rfl) rfl rfl one_25) (w_op rfl rfl rfl (s_len rfl (kn rfl) sle_25) (w_mv rfl rfl rfl rfl rfl .nil)))) ?_
  try refine e_fl ?_
  refine e_loop (ι := { k : Nat // k ≤ v.pairs.length })
    (fun k => [(1, .box 1 0), (2, .box 2 0), (3, .box 3 0), (54, .part (.one (.row 14 v.pairs.length (v.pairs.flatMap pairDats)))), (55, .is (.int .i64 (v.pairs.length : Int))), (56, .is (.int .i64 (k.1 : Int)))])
    (fun _ => ofB v) (fun k => ofR v v.fields.length v.list.length k.1) (fun k => v.pairs.length - k.1) ⟨0, by omega⟩
    (fun K => e_sub ⟨s_t, s_t, s_t, s_t, s_t, s_t, trivial⟩ ⟨s_b, s_b, s_b, trivial⟩ ⟨rfl, rfl, rfl, trivial⟩) ?_
  rintro ⟨k, hk⟩
  dsimp only at hk ⊢
  try refine e_fl ?_
  refine e_plain (w_op rfl rfl rfl (s_bin rfl (kn rfl) (kn rfl) v_lss) .nil) ?_
  try refine e_fl ?_
  refine e_cond rfl (fun h => ?_) (fun h => ?_)
  · have hlt : k < v.pairs.length := by have := of_decide_eq_true h; omega
    obtain ⟨x, hx⟩ : ∃ x, v.pairs[k]? = some x := ⟨_, List.getElem?_eq_getElem hlt⟩
    have htk : v.pairs.take (k + 1) = v.pairs.take k ++ [x] := by rw [List.take_add_one, hx]; rfl
    try refine e_fl ?_
    refine e_list ?_
    refine l_op (s_index rfl (kn rfl) (kn rfl) (by omega) hx pairDats_len sle_25 esz_25 (pairDats_vd x)) ?_
    refine l_op (s_loadn_ref rfl (kn rfl) agg_62 sz_62) ?_
    refine e_alloc 9 [.is (.int .i64 0), .is (.int .u64 0), .is (.string ⟨#[]⟩), .is (.slice none 0 0), .is (.string ⟨#[]⟩), .is (.slice none 0 0), .is (.slice none 0 0), .is (.int .i64 0), .is (.int .u64 0), .is (.string ⟨#[]⟩), .is (.slice none 0 0), .is (.string ⟨#[]⟩), .is (.slice none 0 0), .is (.slice none 0 0)] rfl rfl rfl rfl zr_62 (fun w D M V => ⟨rfl, fun j x v h1 h2 => cfit_is _ h1 h2 rfl⟩) rfl rfl rfl rfl ?_
    refine e_storew rfl rfl rfl (kn rfl) rfl (kn rfl) rfl rfl sz_62 ?_
    refine e_nil ?_
    try refine e_fl ?_
    refine e_draw_tail 10 mixed (by kernel_rfl) (w_op rfl rfl rfl (s_faddr_box rfl (kn rfl) off_34_6) (w_op rfl rfl rfl (s_load1_box rfl (kn rfl) rfl rfl one_32) (w_op rfl rfl rfl (s_faddr_box rfl (kn rfl) off_62_0) (w_op rfl rfl rfl (s_loadn_box (ds := [_, _, _, _, _, _, _]) 7 rfl (kn rfl) rfl rfl agg_27 sz_27 rfl) (w_op rfl rfl rfl (s_call rfl (by kernel_rfl) (ih x.1 (ihp x (List.mem_of_getElem? hx)).1) ⟨(kn rfl), trivial⟩) (w_op rfl rfl rfl (s_faddr_box rfl (kn rfl) off_62_1) (w_op rfl rfl rfl (s_loadn_box (ds := [_, _, _, _, _, _, _]) 7 rfl (kn rfl) rfl rfl agg_27 sz_27 rfl) (w_op rfl rfl rfl (s_call rfl (by kernel_rfl) (ih x.2 (ihp x (List.mem_of_getElem? hx)).2) ⟨(kn rfl), trivial⟩) (w_op rfl rfl rfl (s_build (ds := [_, _, _, _, _, _, _, _, _, _, _, _, _, _]) [(0, _), (1, _)] rfl ⟨rfl, (kn rfl), ⟨rfl, (kn rfl), trivial⟩⟩ rfl pl_64 zr_64 (fun w D => .cons (.cell _) (.cons (.cell _) (.cons (.cell _) (.cons (.cell _) (.cons (.cell _) (.cons (.cell _) (.cons (.cell _) (.cons (.cell _) (.cons (.cell _) (.cons (.cell _) (.cons (.cell _) (.cons (.cell _) (.cons (.cell _) (.cons (.cell _) (.nil _ _))))))))))))))) rfl) (w_op rfl rfl rfl (s_buildSlice (ds := [_, _, _, _, _, _, _, _, _, _, _, _, _, _]) [(0, _)] rfl ⟨rfl, (kn rfl), trivial⟩ rfl sl_32 sz_64 zr_64 (fun w D => .cons (.cell _) (.cons (.cell _) (.cons (.cell _) (.cons (.cell _) (.cons (.cell _) (.cons (.cell _) (.cons (.cell _) (.cons (.cell _) (.cons (.cell _) (.cons (.cell _) (.cons (.cell _) (.cons (.cell _) (.cons (.cell _) (.cons (.cell _) (.nil _ _))))))))))))))) rfl rfl rfl rfl rfl) .nil)))))))))) ?_
    refine e_append rfl rfl rfl rfl (kn rfl) rfl (kn rfl) sl_32 ap_32 rfl rfl (by first | omega | (dsimp only; omega) | omega) (by first | omega | (dsimp only; omega) | omega) ?_
    refine l_op (s_faddr_box rfl (kn rfl) off_34_6) ?_
    refine e_store_own rfl rfl rfl (kn rfl) rfl (kn rfl) rfl rfl sz_32 rfl ?_
    refine e_nil ?_
    try refine e_fl ?_
    refine e_plain (w_op rfl rfl rfl (s_bin rfl (kn rfl) (kn rfl) (v_add64 (by first | omega | (dsimp only; omega) | omega))) (w_mv rfl rfl rfl rfl rfl .nil)) ?_
    try refine e_fl ?_
    refine e_again ⟨k + 1, by omega⟩ (by dsimp only; omega) (fun K => e_sub ⟨s_t, s_t, s_t, s_t, s_t, s_t, trivial⟩ ⟨s_b, s_b, s_b, trivial⟩ ⟨rfl, rfl, rowEq rfl rfl (by rw [htk, flatp_one]; rfl), trivial⟩)
  obtain rfl : k = v.pairs.length := by have := of_decide_eq_false h; omega
  try refine e_fl ?_
  refine e_freeze_cell 3 3 100 rfl rfl rfl rfl rfl ?_
  refine e_freeze_cell 3 5 101 rfl rfl rfl rfl rfl ?_
  refine e_freeze_cell 3 6 102 rfl rfl rfl rfl rfl ?_
  dsimp only
  rw [List.take_length, List.take_length, List.take_length]
  refine e_list ?_
  refine l_op (s_loadn_box (ds := [_, _, _, _, _, _, _]) 7 rfl (kn rfl) rfl rfl agg_34 sz_34 rfl) ?_
  refine e_storew rfl rfl rfl (kn rfl) rfl (kn rfl) rfl rfl sz_34 ?_
  refine e_nil ?_
  try refine e_fl ?_
  exact e_return rfl rfl (.cell rfl rfl rfl agg_34 sz_34 rfl (.nil)) (Imp.of_eq rfl) rfl
theorem of_ef (v : Vl) : vnodes v ≤ 1000000 → EF Try.prog [] 9 [.many (vd v)] (.part (.many (vd v))) :=
  rkids_ind (P := fun v => vnodes v ≤ 1000000 → EF Try.prog [] 9 [.many (vd v)] (.part (.many (vd v)))) (fun v ih hn => of_step v hn fun x hx => ih x hx (by have := (rkids_mem hx).2.2; omega)) v
end Go.Proofs.Ytlikbiiimhfnkaa
