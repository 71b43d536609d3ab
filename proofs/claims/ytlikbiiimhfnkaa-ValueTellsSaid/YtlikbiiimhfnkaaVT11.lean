/- Part 11 of what the last text of this claim is proved by: walks over the program, and the math behind them. Conditions: as each theorem says. -/
import Derived.Test.YtlikbiiimhfnkaaVT10
import Derived.Test.YtlikbiiimhfnkaaProg
namespace Go.Proofs.Ytlikbiiimhfnkaa
open Go.RowKit
theorem vd_one (v : Vl) : (vd v).all Dat.isOne = true := rfl
theorem vdats_one (l : List Vl) : (l.flatMap Vl.dats).all Dat.isOne = true := by
  induction l with
  | nil => rfl
  | cons v l ih => rw [List.flatMap_cons, List.all_append, ih, dats_vd, vd_one]; rfl
abbrev lP (l : List Vl) : Part := .one (.row 7 l.length (l.flatMap Vl.dats))
theorem gpairs_len (ps : List (Vl × Vl)) : (gpairs ps).length = 2 * ps.length := by
  induction ps with
  | nil => rfl
  | cons p ps ih => rw [gpairs_cons, List.length_cons, List.length_cons, ih, List.length_cons]; omega
theorem gpairs_more {ps : List (Vl × Vl)} {k : Nat} {p : Vl × Vl} (h : ps[k]? = some p) : gpairs (ps.take (k + 1)) = gpairs (ps.take k) ++ [p.1, p.2] := by
  unfold gpairs
  rw [List.take_add_one, h, Option.toList_some, List.flatMap_append]
  rfl
theorem fields_more {fs : List (Int × Vl)} {k : Nat} {f : Int × Vl} (h : fs[k]? = some f) : (fs.take (k + 1)).map (·.2) = (fs.take k).map (·.2) ++ [f.2] := by
  rw [List.take_add_one, h, Option.toList_some, List.map_append]
  rfl
theorem flat_one (l : List Vl) (x : Vl) : (l ++ [x]).flatMap Vl.dats = l.flatMap Vl.dats ++ vd x := by rw [List.flatMap_append, ← dats_vd]; simp
theorem flat_two (l : List Vl) (x y : Vl) : (l ++ [x, y]).flatMap Vl.dats = l.flatMap Vl.dats ++ (vd x ++ vd y) := by rw [List.flatMap_append, ← dats_vd, ← dats_vd]; simp
theorem rkids_len (v : Vl) (hn : vnodes v ≤ 1000000) : v.list.length + v.fields.length + 2 * v.pairs.length ≤ 1000000 := by
  have h1 := lnodes_len (rkids v)
  have h2 := rkids_nodes v
  have h3 : (rkids v).length = v.list.length + v.fields.length + 2 * v.pairs.length := by
    unfold rkids
    rw [List.length_append, List.length_append, List.length_map, gpairs_len]
  omega
set_option maxRecDepth 100000 in
set_option maxHeartbeats 4000000 in
theorem kids_ef (v : Vl) (hn : vnodes v ≤ 1000000) : EF Try.prog [] 42 [.many (vd v)] (.part (lP (rkids v))) := by
  have hlen := rkids_len v hn
  refine ef_enter 41 Try.func42 rfl rfl rfl fun w D => ?_
  try refine e_fl ?_
  refine e_list ?_
  refine e_box 1 rfl rfl rfl rfl (kn rfl) rfl rfl rfl rfl ?_
  refine l_as ?_
  refine e_nil ?_
  try refine e_fl ?_
  refine e_list ?_
  refine e_made 100 rfl rfl rfl rfl sl_31 ap_31 rfl rfl ?_
  refine l_op (s_faddr_box rfl (kn rfl) off_34_5) ?_
  refine l_op (s_load1_box rfl (kn rfl) rfl rfl one_31) ?_
  refine e_append rfl rfl rfl rfl (kn rfl) rfl (kn rfl) sl_31 ap_31 rfl (vdats_one v.list) (by first | omega | (dsimp only; omega) | omega) (by first | omega | (dsimp only; omega) | omega) ?_
  refine l_as ?_
  refine e_nil ?_
  try refine e_fl ?_
  refine e_plain (w_op rfl rfl rfl (s_faddr_box rfl (kn rfl) off_34_3) (w_op rfl rfl rfl (s_load1_box rfl (kn rfl) rfl rfl one_30) (w_op rfl rfl rfl (s_len rfl (kn rfl) sle_30) (w_mv rfl rfl rfl rfl rfl .nil)))) ?_
  try refine e_fl ?_
  refine e_loop (ι := { k : Nat // k ≤ v.fields.length })
    (fun k => [(1, .box 1 0), (3, .own 100), (13, .part (.one (.row 8 v.fields.length (v.fields.flatMap fieldDats)))), (14, .is (.int .i64 (v.fields.length : Int))), (15, .is (.int .i64 (k.1 : Int)))])
    (fun _ => [(1, ⟨34, bcs (vd v)⟩)]) (fun k => [(100, ⟨34, 7, v.list.length + k.1, (v.list ++ (v.fields.take k.1).map (·.2)).flatMap Vl.dats, false⟩)])
    (fun k => v.fields.length - k.1) ⟨0, by omega⟩
    (fun K => e_sub ⟨s_t, s_t, s_t, s_t, s_t, trivial⟩ ⟨s_b, trivial⟩ ⟨rowEq rfl (by simp) (by simp), trivial⟩) ?_
  rintro ⟨k, hk⟩
  dsimp only at hk ⊢
  try refine e_fl ?_
  refine e_plain (w_op rfl rfl rfl (s_bin rfl (kn rfl) (kn rfl) v_lss) .nil) ?_
  try refine e_fl ?_
  refine e_cond rfl (fun h => ?_) (fun h => ?_)
  · have hlt : k < v.fields.length := by have := of_decide_eq_true h; omega
    obtain ⟨x, hx⟩ : ∃ x, v.fields[k]? = some x := ⟨_, List.getElem?_eq_getElem hlt⟩
    have htk := fields_more hx
    try refine e_fl ?_
    refine e_list ?_
    refine l_op (s_index rfl (kn rfl) (kn rfl) (by omega) hx fieldDats_len sle_30 esz_30 (fieldDats_vd x)) ?_
    refine l_op (s_loadn_ref rfl (kn rfl) agg_60 sz_60) ?_
    refine e_alloc 5 [.is (.int .i64 0), .is (.int .i64 0), .is (.int .u64 0), .is (.string ⟨#[]⟩), .is (.slice none 0 0), .is (.string ⟨#[]⟩), .is (.slice none 0 0), .is (.slice none 0 0)] rfl rfl rfl rfl zr_60 (fun w D M V => ⟨rfl, fun j x v h1 h2 => cfit_is _ h1 h2 rfl⟩) rfl rfl rfl rfl ?_
    refine e_storew rfl rfl rfl (kn rfl) rfl (kn rfl) rfl rfl sz_60 ?_
    refine e_nil ?_
    try refine e_fl ?_
    refine e_list ?_
    refine l_mv ?_
    refine l_op (s_faddr_box rfl (kn rfl) off_60_1) ?_
    refine l_op (s_loadn_box (ds := [_, _, _, _, _, _, _]) 7 rfl (kn rfl) rfl rfl agg_34 sz_34 rfl) ?_
    refine l_op (s_buildSlice (ds := [_, _, _, _, _, _, _]) [(0, _)] rfl ⟨rfl, (kn rfl), trivial⟩ rfl sl_31 sz_34 zr_34 (fun w D => .cons (.cell _) (.cons (.cell _) (.cons (.cell _) (.cons (.cell _) (.cons (.cell _) (.cons (.cell _) (.cons (.cell _) (.nil _ _)))))))) rfl rfl rfl rfl rfl) ?_
    refine e_append rfl rfl rfl rfl (kn rfl) rfl (kn rfl) sl_31 ap_31 rfl rfl (by first | omega | (dsimp only; omega) | omega) (by first | omega | (dsimp only; omega) | omega) ?_
    refine l_as ?_
    refine e_nil ?_
    try refine e_fl ?_
    refine e_plain (w_op rfl rfl rfl (s_bin rfl (kn rfl) (kn rfl) (v_add64 (by first | omega | (dsimp only; omega) | omega))) (w_mv rfl rfl rfl rfl rfl .nil)) ?_
    try refine e_fl ?_
    refine e_again ⟨k + 1, by omega⟩ (by dsimp only; omega) (fun K => e_sub ⟨s_t, s_t, s_t, s_t, s_t, trivial⟩ ⟨s_b, trivial⟩ ⟨rowEq rfl (by dsimp only; omega) (by rw [htk, ← List.append_assoc, flat_one]; rfl), trivial⟩)
  obtain rfl : k = v.fields.length := by have := of_decide_eq_false h; omega
  try refine e_fl ?_
  refine e_plain (w_op rfl rfl rfl (s_faddr_box rfl (kn rfl) off_34_6) (w_op rfl rfl rfl (s_load1_box rfl (kn rfl) rfl rfl one_32) (w_op rfl rfl rfl (s_len rfl (kn rfl) sle_32) (w_mv rfl rfl rfl rfl rfl .nil)))) ?_
  try refine e_fl ?_
  refine e_loop (ι := { k : Nat // k ≤ v.pairs.length })
    (fun k => [(1, .box 1 0), (3, .own 100), (26, .part (.one (.row 14 v.pairs.length (v.pairs.flatMap pairDats)))), (27, .is (.int .i64 (v.pairs.length : Int))), (28, .is (.int .i64 (k.1 : Int)))])
    (fun _ => [(1, ⟨34, bcs (vd v)⟩)]) (fun k => [(100, ⟨34, 7, v.list.length + v.fields.length + 2 * k.1, (v.list ++ v.fields.map (·.2) ++ gpairs (v.pairs.take k.1)).flatMap Vl.dats, false⟩)])
    (fun k => v.pairs.length - k.1) ⟨0, by omega⟩
    (fun K => e_sub ⟨s_t, s_t, s_t, s_t, s_t, trivial⟩ ⟨s_b, trivial⟩ ⟨rowEq rfl (by simp) (by simp [gpairs]), trivial⟩) ?_
  rintro ⟨k, hk⟩
  dsimp only at hk ⊢
  try refine e_fl ?_
  refine e_plain (w_op rfl rfl rfl (s_bin rfl (kn rfl) (kn rfl) v_lss) .nil) ?_
  try refine e_fl ?_
  refine e_cond rfl (fun h => ?_) (fun h => ?_)
  · have hlt : k < v.pairs.length := by have := of_decide_eq_true h; omega
    obtain ⟨x, hx⟩ : ∃ x, v.pairs[k]? = some x := ⟨_, List.getElem?_eq_getElem hlt⟩
    have htk := gpairs_more hx
    try refine e_fl ?_
    refine e_list ?_
    refine l_op (s_index rfl (kn rfl) (kn rfl) (by omega) hx pairDats_len sle_32 esz_32 (pairDats_vd x)) ?_
    refine l_op (s_loadn_ref rfl (kn rfl) agg_64 sz_64) ?_
    refine e_alloc 7 [.is (.int .i64 0), .is (.int .u64 0), .is (.string ⟨#[]⟩), .is (.slice none 0 0), .is (.string ⟨#[]⟩), .is (.slice none 0 0), .is (.slice none 0 0), .is (.int .i64 0), .is (.int .u64 0), .is (.string ⟨#[]⟩), .is (.slice none 0 0), .is (.string ⟨#[]⟩), .is (.slice none 0 0), .is (.slice none 0 0)] rfl rfl rfl rfl zr_64 (fun w D M V => ⟨rfl, fun j x v h1 h2 => cfit_is _ h1 h2 rfl⟩) rfl rfl rfl rfl ?_
    refine e_storew rfl rfl rfl (kn rfl) rfl (kn rfl) rfl rfl sz_64 ?_
    refine e_nil ?_
    try refine e_fl ?_
    refine e_list ?_
    refine l_mv ?_
    refine l_op (s_faddr_box rfl (kn rfl) off_64_0) ?_
    refine l_op (s_loadn_box (ds := [_, _, _, _, _, _, _]) 7 rfl (kn rfl) rfl rfl agg_34 sz_34 rfl) ?_
    refine l_op (s_faddr_box rfl (kn rfl) off_64_1) ?_
    refine l_op (s_loadn_box (ds := [_, _, _, _, _, _, _]) 7 rfl (kn rfl) rfl rfl agg_34 sz_34 rfl) ?_
    refine l_op (s_buildSlice (ds := [_, _, _, _, _, _, _, _, _, _, _, _, _, _]) [(0, _), (1, _)] rfl ⟨rfl, (kn rfl), ⟨rfl, (kn rfl), trivial⟩⟩ rfl sl_31 sz_34 zr_34 (fun w D => .cons (.cell _) (.cons (.cell _) (.cons (.cell _) (.cons (.cell _) (.cons (.cell _) (.cons (.cell _) (.cons (.cell _) (.cons (.cell _) (.cons (.cell _) (.cons (.cell _) (.cons (.cell _) (.cons (.cell _) (.cons (.cell _) (.cons (.cell _) (.nil _ _))))))))))))))) rfl rfl rfl rfl rfl) ?_
    refine e_append rfl rfl rfl rfl (kn rfl) rfl (kn rfl) sl_31 ap_31 rfl rfl (by first | omega | (dsimp only; omega) | omega) (by first | omega | (dsimp only; omega) | omega) ?_
    refine l_as ?_
    refine e_nil ?_
    try refine e_fl ?_
    refine e_plain (w_op rfl rfl rfl (s_bin rfl (kn rfl) (kn rfl) (v_add64 (by first | omega | (dsimp only; omega) | omega))) (w_mv rfl rfl rfl rfl rfl .nil)) ?_
    try refine e_fl ?_
    refine e_again ⟨k + 1, by omega⟩ (by dsimp only; omega) (fun K => e_sub ⟨s_t, s_t, s_t, s_t, s_t, trivial⟩ ⟨s_b, trivial⟩ ⟨rowEq rfl (by dsimp only; omega) (by rw [htk, ← List.append_assoc, flat_two]; rfl), trivial⟩)
  obtain rfl : k = v.pairs.length := by have := of_decide_eq_false h; omega
  try refine e_fl ?_
  refine e_plain (w_mv rfl rfl rfl rfl rfl (w_as rfl rfl rfl rfl rfl .nil)) ?_
  try refine e_fl ?_
  refine e_freeze_slot 2 100 rfl rfl rfl ?_
  have hkl : v.list.length + v.fields.length + 2 * v.pairs.length = (rkids v).length := by unfold rkids; rw [List.length_append, List.length_append, List.length_map, gpairs_len]
  exact e_return rfl rfl (.tmp (kn rfl) (.nil)) (Imp.of_eq (by rw [List.take_length, hkl]; rfl)) rfl
set_option maxRecDepth 100000 in
set_option maxHeartbeats 4000000 in
theorem size_step (v : Vl) (hn : vnodes v ≤ 1000000) (ih : ∀ x ∈ rkids v, EF Try.prog [] 13 [.many (vd x)] (.part (iP (vsize x)))) : EF Try.prog [] 13 [.many (vd v)] (.part (iP (vsize v))) := by
  have hlen := lnodes_len (rkids v)
  have hnod := rkids_nodes v
  refine ef_enter 22 Try.func13 rfl rfl rfl fun w D => ?_
  try refine e_fl ?_
  refine e_list ?_
  refine e_box 1 rfl rfl rfl rfl (kn rfl) rfl rfl rfl rfl ?_
  refine l_as ?_
  refine e_nil ?_
  try refine e_fl ?_
  refine e_plain (w_op rfl rfl rfl (s_faddr_box rfl (kn rfl) off_34_0) (w_op rfl rfl rfl (s_load1_box rfl (kn rfl) rfl rfl one_3) (w_op rfl rfl rfl (s_bin rfl (kn rfl) (kn rfl) v_eql) .nil))) ?_
  try refine e_fl ?_
  refine e_cond rfl (fun h => ?_) (fun h => ?_)
  · have e : vsize v = 0 := by rw [vsize_kids]; exact if_pos (of_decide_eq_true h)
    try refine e_fl ?_
    refine e_plain (w_as rfl rfl rfl rfl rfl .nil) ?_
    try refine e_fl ?_
    exact e_return rfl rfl (.tmp (kn rfl) (.nil)) (Imp.of_eq (by rw [e]; rfl)) rfl
  have e : vsize v = 1 + lsize (rkids v) := by rw [vsize_kids]; exact if_neg (of_decide_eq_false h)
  have hsl := lsize_le (rkids v)
  try refine e_fl ?_
  refine e_plain (w_as rfl rfl rfl rfl rfl .nil) ?_
  try refine e_fl ?_
  refine e_plain (w_op rfl rfl rfl (s_loadn_box (ds := [_, _, _, _, _, _, _]) 7 rfl (kn rfl) rfl rfl agg_34 sz_34 rfl) (w_op rfl rfl rfl (s_call rfl (by kernel_rfl) (kids_ef v hn) ⟨(kn rfl), trivial⟩) (w_op rfl rfl rfl (s_len rfl (kn rfl) sle_31) (w_mv rfl rfl rfl rfl rfl .nil)))) ?_
  try refine e_fl ?_
  generalize rkids v = L at *
  refine e_loop (ι := { k : Nat // k ≤ L.length })
    (fun k => [(1, .box 1 0), (3, .is (.int .i64 (1 + (lsize (L.take k.1) : Int)))), (10, .part (lP L)), (11, .is (.int .i64 (L.length : Int))), (12, .is (.int .i64 (k.1 : Int)))])
    (fun _ => [(1, ⟨34, bcs (vd v)⟩)]) (fun _ => []) (fun k => L.length - k.1) ⟨0, by omega⟩
    (fun K => e_sub ⟨s_t, ⟨_, rfl, (Imp.of_eq (by simp [lsize]))⟩, s_t, s_t, s_t, trivial⟩ ⟨s_b, trivial⟩ trivial) ?_
  rintro ⟨k, hk⟩
  dsimp only at hk ⊢
  try refine e_fl ?_
  refine e_plain (w_op rfl rfl rfl (s_bin rfl (kn rfl) (kn rfl) v_lss) .nil) ?_
  try refine e_fl ?_
  refine e_cond rfl (fun h => ?_) (fun h => ?_)
  · have hlt : k < L.length := by have := of_decide_eq_true h; omega
    obtain ⟨x, hx⟩ : ∃ x, L[k]? = some x := ⟨_, List.getElem?_eq_getElem hlt⟩
    have htk := lsize_take hx
    have hle := lsize_le (L.take (k + 1))
    have hle2 := lnodes_take L (k + 1)
    try refine e_fl ?_
    refine e_list ?_
    refine l_op (s_index rfl (kn rfl) (kn rfl) (by omega) hx Vl.dats_len sle_31 esz_31 (dats_vd x)) ?_
    refine l_op (s_loadn_ref rfl (kn rfl) agg_34 sz_34) ?_
    refine e_alloc 5 [.is (.int .i64 0), .is (.int .u64 0), .is (.string ⟨#[]⟩), .is (.slice none 0 0), .is (.string ⟨#[]⟩), .is (.slice none 0 0), .is (.slice none 0 0)] rfl rfl rfl rfl zr_34 (fun w D M V => ⟨rfl, fun j x v h1 h2 => cfit_is _ h1 h2 rfl⟩) rfl rfl rfl rfl ?_
    refine e_storew rfl rfl rfl (kn rfl) rfl (kn rfl) rfl rfl sz_34 ?_
    refine e_nil ?_
    try refine e_fl ?_
    refine e_plain (w_mv rfl rfl rfl rfl rfl (w_op rfl rfl rfl (s_loadn_box (ds := [_, _, _, _, _, _, _]) 7 rfl (kn rfl) rfl rfl agg_34 sz_34 rfl) (w_op rfl rfl rfl (s_call rfl (by kernel_rfl) (ih x (List.mem_of_getElem? hx)) ⟨(kn rfl), trivial⟩) (w_op rfl rfl rfl (s_bin rfl (kn rfl) (kn rfl) (v_add64 (by first | omega | (dsimp only; omega) | omega))) (w_as rfl rfl rfl rfl rfl .nil))))) ?_
    try refine e_fl ?_
    refine e_plain (w_op rfl rfl rfl (s_bin rfl (kn rfl) (kn rfl) (v_add64 (by first | omega | (dsimp only; omega) | omega))) (w_mv rfl rfl rfl rfl rfl .nil)) ?_
    try refine e_fl ?_
    refine e_again ⟨k + 1, by omega⟩ (by dsimp only; omega) (fun K => e_sub ⟨s_t, ⟨_, rfl, (Imp.of_eq (by rw [htk]; simp [Int.add_assoc]))⟩, s_t, s_t, s_t, trivial⟩ ⟨s_b, trivial⟩ trivial)
  obtain rfl : k = L.length := by have := of_decide_eq_false h; omega
  rw [List.take_length]
  try refine e_fl ?_
  refine e_plain (w_mv rfl rfl rfl rfl rfl (w_as rfl rfl rfl rfl rfl .nil)) ?_
  try refine e_fl ?_
  exact e_return rfl rfl (.tmp (kn rfl) (.nil)) (Imp.of_eq (by rw [e]; simp; rfl)) rfl
theorem size_ef (v : Vl) : vnodes v ≤ 1000000 → EF Try.prog [] 13 [.many (vd v)] (.part (iP (vsize v))) :=
  rkids_ind (P := fun v => vnodes v ≤ 1000000 → EF Try.prog [] 13 [.many (vd v)] (.part (iP (vsize v)))) (fun v ih hn => size_step v hn fun x hx => ih x hx (by have := (rkids_mem hx).2.2; omega)) v
set_option maxRecDepth 100000 in
set_option maxHeartbeats 4000000 in
theorem depth_step (v : Vl) (hn : vnodes v ≤ 1000000) (ih : ∀ x ∈ rkids v, EF Try.prog [] 15 [.many (vd x)] (.part (iP (vdepth x)))) : EF Try.prog [] 15 [.many (vd v)] (.part (iP (vdepth v))) := by
  have hlen := lnodes_len (rkids v)
  have hnod := rkids_nodes v
  have e := vdepth_kids v
  have hsl := lsize_le (rkids v)
  refine ef_enter 27 Try.func15 rfl rfl rfl fun w D => ?_
  try refine e_fl ?_
  refine e_list ?_
  refine e_box 1 rfl rfl rfl rfl (kn rfl) rfl rfl rfl rfl ?_
  refine l_as ?_
  refine e_nil ?_
  try refine e_fl ?_
  refine e_plain (w_as rfl rfl rfl rfl rfl .nil) ?_
  try refine e_fl ?_
  refine e_plain (w_op rfl rfl rfl (s_loadn_box (ds := [_, _, _, _, _, _, _]) 7 rfl (kn rfl) rfl rfl agg_34 sz_34 rfl) (w_op rfl rfl rfl (s_call rfl (by kernel_rfl) (kids_ef v hn) ⟨(kn rfl), trivial⟩) (w_op rfl rfl rfl (s_len rfl (kn rfl) sle_31) (w_mv rfl rfl rfl rfl rfl .nil)))) ?_
  try refine e_fl ?_
  generalize rkids v = L at *
  refine e_loop (ι := { k : Nat // k ≤ L.length })
    (fun k => [(1, .box 1 0), (3, .is (.int .i64 (ldepth (L.take k.1) : Int))), (8, .part (lP L)), (9, .is (.int .i64 (L.length : Int))), (10, .is (.int .i64 (k.1 : Int)))])
    (fun _ => [(1, ⟨34, bcs (vd v)⟩)]) (fun _ => []) (fun k => L.length - k.1) ⟨0, by omega⟩
    (fun K => e_sub ⟨s_t, ⟨_, rfl, (Imp.of_eq (by simp [ldepth]))⟩, s_t, s_t, s_t, trivial⟩ ⟨s_b, trivial⟩ trivial) ?_
  rintro ⟨k, hk⟩
  dsimp only at hk ⊢
  try refine e_fl ?_
  refine e_plain (w_op rfl rfl rfl (s_bin rfl (kn rfl) (kn rfl) v_lss) .nil) ?_
  try refine e_fl ?_
  refine e_cond rfl (fun h => ?_) (fun h => ?_)
  · have hlt : k < L.length := by have := of_decide_eq_true h; omega
    obtain ⟨x, hx⟩ : ∃ x, L[k]? = some x := ⟨_, List.getElem?_eq_getElem hlt⟩
    have htk := ldepth_take hx
    try refine e_fl ?_
    refine e_list ?_
    refine l_op (s_index rfl (kn rfl) (kn rfl) (by omega) hx Vl.dats_len sle_31 esz_31 (dats_vd x)) ?_
    refine l_op (s_loadn_ref rfl (kn rfl) agg_34 sz_34) ?_
    refine e_alloc 5 [.is (.int .i64 0), .is (.int .u64 0), .is (.string ⟨#[]⟩), .is (.slice none 0 0), .is (.string ⟨#[]⟩), .is (.slice none 0 0), .is (.slice none 0 0)] rfl rfl rfl rfl zr_34 (fun w D M V => ⟨rfl, fun j x v h1 h2 => cfit_is _ h1 h2 rfl⟩) rfl rfl rfl rfl ?_
    refine e_storew rfl rfl rfl (kn rfl) rfl (kn rfl) rfl rfl sz_34 ?_
    refine e_nil ?_
    try refine e_fl ?_
    refine e_plain (w_op rfl rfl rfl (s_loadn_box (ds := [_, _, _, _, _, _, _]) 7 rfl (kn rfl) rfl rfl agg_34 sz_34 rfl) (w_op rfl rfl rfl (s_call rfl (by kernel_rfl) (ih x (List.mem_of_getElem? hx)) ⟨(kn rfl), trivial⟩) (w_as rfl rfl rfl rfl rfl .nil))) ?_
    try refine e_fl ?_
    refine e_plain (w_mv rfl rfl rfl rfl rfl (w_mv rfl rfl rfl rfl rfl (w_op rfl rfl rfl (s_bin rfl (kn rfl) (kn rfl) v_gtr) .nil))) ?_
    try refine e_fl ?_
    refine e_cond rfl (fun h1 => ?_) (fun h1 => ?_)
    · have hm : ldepth (L.take (k + 1)) = vdepth x := by have := of_decide_eq_true h1; rw [htk]; omega
      try refine e_fl ?_
      refine e_plain (w_mv rfl rfl rfl rfl rfl (w_as rfl rfl rfl rfl rfl .nil)) ?_
      try refine e_fl ?_
      try refine e_fl ?_
      refine e_plain (w_op rfl rfl rfl (s_bin rfl (kn rfl) (kn rfl) (v_add64 (by first | omega | (dsimp only; omega) | omega))) (w_mv rfl rfl rfl rfl rfl .nil)) ?_
      try refine e_fl ?_
      refine e_again ⟨k + 1, by omega⟩ (by dsimp only; omega) (fun K => e_sub ⟨s_t, ⟨_, rfl, (Imp.of_eq (by rw [hm]))⟩, s_t, s_t, s_t, trivial⟩ ⟨s_b, trivial⟩ trivial)
    · have hm : ldepth (L.take (k + 1)) = ldepth (L.take k) := by have := of_decide_eq_false h1; rw [htk]; omega
      try refine e_fl ?_
      refine e_plain (w_op rfl rfl rfl (s_bin rfl (kn rfl) (kn rfl) (v_add64 (by first | omega | (dsimp only; omega) | omega))) (w_mv rfl rfl rfl rfl rfl .nil)) ?_
      try refine e_fl ?_
      refine e_again ⟨k + 1, by omega⟩ (by dsimp only; omega) (fun K => e_sub ⟨s_t, ⟨_, rfl, (Imp.of_eq (by rw [hm]))⟩, s_t, s_t, s_t, trivial⟩ ⟨s_b, trivial⟩ trivial)
  obtain rfl : k = L.length := by have := of_decide_eq_false h; omega
  rw [List.take_length]
  try refine e_fl ?_
  refine e_plain (w_op rfl rfl rfl (s_faddr_box rfl (kn rfl) off_34_0) (w_op rfl rfl rfl (s_load1_box rfl (kn rfl) rfl rfl one_3) (w_op rfl rfl rfl (s_bin rfl (kn rfl) (kn rfl) v_eql) .nil))) ?_
  try refine e_fl ?_
  refine e_cond rfl (fun h1 => ?_) (fun h1 => ?_)
  · have e2 : vdepth v = ldepth L + 1 := by rw [e, if_pos (of_decide_eq_true h1)]
    try refine e_fl ?_
    refine e_plain (w_mv rfl rfl rfl rfl rfl (w_op rfl rfl rfl (s_bin rfl (kn rfl) (kn rfl) (v_add64 (by first | omega | (dsimp only; omega) | omega))) (w_as rfl rfl rfl rfl rfl .nil))) ?_
    try refine e_fl ?_
    exact e_return rfl rfl (.tmp (kn rfl) (.nil)) (Imp.of_eq (by rw [e2]; rfl)) rfl
  have e2 : vdepth v = ldepth L := by rw [e, if_neg (of_decide_eq_false h1)]; rfl
  try refine e_fl ?_
  refine e_plain (w_mv rfl rfl rfl rfl rfl (w_as rfl rfl rfl rfl rfl .nil)) ?_
  try refine e_fl ?_
  exact e_return rfl rfl (.tmp (kn rfl) (.nil)) (Imp.of_eq (by rw [e2]; rfl)) rfl
theorem depth_ef (v : Vl) : vnodes v ≤ 1000000 → EF Try.prog [] 15 [.many (vd v)] (.part (iP (vdepth v))) :=
  rkids_ind (P := fun v => vnodes v ≤ 1000000 → EF Try.prog [] 15 [.many (vd v)] (.part (iP (vdepth v)))) (fun v ih hn => depth_step v hn fun x hx => ih x hx (by have := (rkids_mem hx).2.2; omega)) v
end Go.Proofs.Ytlikbiiimhfnkaa
