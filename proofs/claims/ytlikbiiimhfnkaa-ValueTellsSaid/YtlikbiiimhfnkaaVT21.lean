/- Part 21 of what the last text of this claim is proved by: walks over the program, and the math behind them. Conditions: as each theorem says. -/
import Derived.Test.YtlikbiiimhfnkaaVT20
import Derived.Test.YtlikbiiimhfnkaaProg
import Derived.ProofKit
import Derived.OpenShut
import Derived.Carry
import Derived.ChangeSame
namespace Go.Proofs.Ytlikbiiimhfnkaa
open Go.RowKit
theorem right_plain {v : Vl} (h : vright v = true) : vplain v = true := by
  rw [vright_eq] at h
  simp only [Bool.and_eq_true] at h
  exact h.1.1.1
theorem right_fields {v : Vl} (h : vright v = true) : fright 0 v.fields = true := by
  rw [vright_eq] at h
  simp only [Bool.and_eq_true] at h
  exact h.1.1.2
theorem right_msg {v : Vl} (h : vright v = true) (hk : v.kind = 3) : v = .mk 3 0 [] v.fields v.rest [] [] := by
  obtain ⟨_, _, a, b, _, d, e⟩ := (vplain_iff v).1 (right_plain h)
  rw [show v = .mk v.kind v.num v.text v.fields v.rest v.list v.pairs from v.eta]
  simp only [Vl.fields, Vl.rest]
  rw [hk, a (by omega), b (by omega), Decidable.not_not.1 (fun q => absurd (d.2 q) (by omega)), Decidable.not_not.1 (fun q => absurd (e.2 q) (by omega))]
theorem right_map {v : Vl} (h : vright v = true) (hk : v.kind = 5) : v = .mk 5 0 [] [] [] [] v.pairs := by
  obtain ⟨_, _, a, b, c, d, _⟩ := (vplain_iff v).1 (right_plain h)
  rw [show v = .mk v.kind v.num v.text v.fields v.rest v.list v.pairs from v.eta]
  simp only [Vl.pairs]
  rw [hk, a (by omega), b (by omega), (c (by omega)).1, (c (by omega)).2, Decidable.not_not.1 (fun q => absurd (d.2 q) (by omega))]
theorem right_nil {v : Vl} (h : vright v = true) (hk : v.kind = 0) : v = .mk 0 0 [] [] [] [] [] := by
  obtain ⟨_, _, a, b, c, d, e⟩ := (vplain_iff v).1 (right_plain h)
  rw [show v = .mk v.kind v.num v.text v.fields v.rest v.list v.pairs from v.eta]
  rw [hk, a (by omega), b (by omega), (c (by omega)).1, (c (by omega)).2, Decidable.not_not.1 (fun q => absurd (d.2 q) (by omega)), Decidable.not_not.1 (fun q => absurd (e.2 q) (by omega))]
set_option maxRecDepth 100000 in
theorem pnum_ef (n : Nat) : EF Try.prog [] 28 [uP n] (.part (.many (vd (vnum n)))) := by
  refine ef_enter 5 Try.func28 rfl rfl rfl fun w D => ?_
  try refine e_fl ?_
  refine e_list ?_
  refine e_alloc 2 [.is (.int .i64 0), .is (.int .u64 0), .is (.string ⟨#[]⟩), .is (.slice none 0 0), .is (.string ⟨#[]⟩), .is (.slice none 0 0), .is (.slice none 0 0)] rfl rfl rfl rfl zr_27 (fun w D M V => ⟨rfl, fun j x v h1 h2 => cfit_is _ h1 h2 rfl⟩) rfl rfl rfl rfl ?_
  refine e_nil ?_
  try refine e_fl ?_
  refine e_list ?_
  refine l_mv ?_
  refine l_op (s_build (ds := [_, _, _, .row 8 0 [], _, .row 7 0 [], .row 14 0 []]) [(0, _), (1, _)] rfl ⟨rfl, (kn rfl), ⟨rfl, (kn rfl), trivial⟩⟩ rfl pl_27 zr_27 (fun w D => .cons (.cell _) (.cons (.cell _) (.cons (.cell _) (.cons (.none _ _ _) (.cons (.cell _) (.cons (.none _ _ _) (.cons (.none _ _ _) (.nil _ _)))))))) rfl) ?_
  refine e_storew rfl rfl rfl (kn rfl) rfl (kn rfl) rfl rfl sz_27 ?_
  refine e_nil ?_
  try refine e_fl ?_
  exact e_return rfl rfl (.cell rfl rfl rfl agg_27 sz_27 rfl (.nil)) (Imp.of_eq rfl) rfl
set_option maxRecDepth 100000 in
theorem pstr_ef (s : List UInt8) : EF Try.prog [] 29 [sP s] (.part (.many (vd (vstr s)))) := by
  refine ef_enter 5 Try.func29 rfl rfl rfl fun w D => ?_
  try refine e_fl ?_
  refine e_list ?_
  refine e_alloc 2 [.is (.int .i64 0), .is (.int .u64 0), .is (.string ⟨#[]⟩), .is (.slice none 0 0), .is (.string ⟨#[]⟩), .is (.slice none 0 0), .is (.slice none 0 0)] rfl rfl rfl rfl zr_27 (fun w D M V => ⟨rfl, fun j x v h1 h2 => cfit_is _ h1 h2 rfl⟩) rfl rfl rfl rfl ?_
  refine e_nil ?_
  try refine e_fl ?_
  refine e_list ?_
  refine l_mv ?_
  refine l_op (s_build (ds := [_, _, _, .row 8 0 [], _, .row 7 0 [], .row 14 0 []]) [(0, _), (2, _)] rfl ⟨rfl, (kn rfl), ⟨rfl, (kn rfl), trivial⟩⟩ rfl pl_27 zr_27 (fun w D => .cons (.cell _) (.cons (.cell _) (.cons (.cell _) (.cons (.none _ _ _) (.cons (.cell _) (.cons (.none _ _ _) (.cons (.none _ _ _) (.nil _ _)))))))) rfl) ?_
  refine e_storew rfl rfl rfl (kn rfl) rfl (kn rfl) rfl rfl sz_27 ?_
  refine e_nil ?_
  try refine e_fl ?_
  exact e_return rfl rfl (.cell rfl rfl rfl agg_27 sz_27 rfl (.nil)) (Imp.of_eq rfl) rfl
set_option maxRecDepth 100000 in
theorem pget_ef (v : Vl) (n : Int) (hs : Short v) (hr : vright v = true) : EF Try.prog [] 22 [.many (vd v), iP n] (.part (.many (vd (vget v n)))) := by
  refine ef_enter 15 Try.func22 rfl rfl rfl fun w D => ?_
  try refine e_fl ?_
  refine e_list ?_
  refine e_box 2 rfl rfl rfl rfl (kn rfl) rfl rfl rfl rfl ?_
  refine e_alloc 4 [.is (.int .i64 0), .is (.int .u64 0), .is (.string ⟨#[]⟩), .is (.slice none 0 0), .is (.string ⟨#[]⟩), .is (.slice none 0 0), .is (.slice none 0 0)] rfl rfl rfl rfl zr_27 (fun w D M V => ⟨rfl, fun j x v h1 h2 => cfit_is _ h1 h2 rfl⟩) rfl rfl rfl rfl ?_
  refine e_nil ?_
  try refine e_fl ?_
  refine e_plain (w_op rfl rfl rfl (s_faddr_box rfl (kn rfl) off_27_0) (w_op rfl rfl rfl (s_load1_box rfl (kn rfl) rfl rfl one_3) (w_op rfl rfl rfl (s_bin rfl (kn rfl) (kn rfl) v_neq) .nil))) ?_
  try refine e_fl ?_
  refine e_cond rfl (fun h => ?_) (fun h => ?_)
  · have e : vget v n = .zero := if_neg (by simpa using h)
    try refine e_fl ?_
    refine e_list ?_
    refine l_op (s_build (ds := [_, _, _, _, _, _, _]) [] rfl trivial rfl pl_27 zr_27 (fun w D => .cons (.cell _) (.cons (.cell _) (.cons (.cell _) (.cons (.cell _) (.cons (.cell _) (.cons (.cell _) (.cons (.cell _) (.nil _ _)))))))) rfl) ?_
    refine e_storew rfl rfl rfl (kn rfl) rfl (kn rfl) rfl rfl sz_27 ?_
    refine e_nil ?_
    try refine e_fl ?_
    exact e_return rfl rfl (.cell rfl rfl rfl agg_27 sz_27 rfl (.nil)) (Imp.many (by rw [e]; exact ⟨DImp.refl _, DImp.refl _, DImp.refl _, DImp.nil 8, DImp.refl _, DImp.nil 7, DImp.nil 14, trivial⟩)) rfl
  have e : vget v n = (gat (fto n) v.fields).2 := by
    unfold vget gat
    rw [if_pos (by simpa using h), find_found n (right_fields hr)]
    split <;> rfl
  try refine e_fl ?_
  refine e_list ?_
  refine l_op (s_faddr_box rfl (kn rfl) off_27_3) ?_
  refine l_op (s_load1_box rfl (kn rfl) rfl rfl one_23) ?_
  refine l_mv ?_
  refine l_op (s_build (ds := [_, _, _, _, .row 8 0 [], _, .row 7 0 [], .row 14 0 []]) [(0, _)] rfl ⟨rfl, (kn rfl), trivial⟩ rfl pl_58 zr_58 (fun w D => .cons (.cell _) (.cons (.cell _) (.cons (.cell _) (.cons (.cell _) (.cons (.none _ _ _) (.cons (.cell _) (.cons (.none _ _ _) (.cons (.none _ _ _) (.nil _ _))))))))) rfl) ?_
  refine l_op (s_call rfl (by kernel_rfl) (found_fields_ef 35 (by kernel_rfl) v.fields (short_len hs).1 (n, Vl.zero) (fto n) (fright_mono (right_fields hr)) (fun y _ => byNumber_ef y (n, Vl.zero))) ⟨(kn rfl), ⟨(kn rfl), ⟨(kn rfl), trivial⟩⟩⟩) ?_
  refine l_op (s_fieldn (off := 1) rfl (kn rfl) (by kernel_rfl) agg_27 sz_27) ?_
  refine e_storew rfl rfl rfl (kn rfl) rfl (kn rfl) rfl rfl sz_27 ?_
  refine e_nil ?_
  try refine e_fl ?_
  exact e_return rfl rfl (.cell rfl rfl rfl agg_27 sz_27 rfl (.nil)) (Imp.of_eq (by rw [e]; rfl)) rfl
set_option maxRecDepth 100000 in
theorem pfind_ef (v key : Vl) (hs : Short v) (hk : Short key) (hr : vright v = true) : EF Try.prog [] 26 [.many (vd v), .many (vd key)] (.part (.many (vd (vfind v key)))) := by
  refine ef_enter 15 Try.func26 rfl rfl rfl fun w D => ?_
  try refine e_fl ?_
  refine e_list ?_
  refine e_box 2 rfl rfl rfl rfl (kn rfl) rfl rfl rfl rfl ?_
  refine e_box 3 rfl rfl rfl rfl (kn rfl) rfl rfl rfl rfl ?_
  refine e_alloc 4 [.is (.int .i64 0), .is (.int .u64 0), .is (.string ⟨#[]⟩), .is (.slice none 0 0), .is (.string ⟨#[]⟩), .is (.slice none 0 0), .is (.slice none 0 0)] rfl rfl rfl rfl zr_27 (fun w D M V => ⟨rfl, fun j x v h1 h2 => cfit_is _ h1 h2 rfl⟩) rfl rfl rfl rfl ?_
  refine e_nil ?_
  try refine e_fl ?_
  refine e_plain (w_op rfl rfl rfl (s_faddr_box rfl (kn rfl) off_27_0) (w_op rfl rfl rfl (s_load1_box rfl (kn rfl) rfl rfl one_3) (w_op rfl rfl rfl (s_bin rfl (kn rfl) (kn rfl) v_neq) .nil))) ?_
  try refine e_fl ?_
  refine e_cond rfl (fun h => ?_) (fun h => ?_)
  · have e : vfind v key = .zero := if_neg (by simpa using h)
    try refine e_fl ?_
    refine e_list ?_
    refine l_op (s_build (ds := [_, _, _, _, _, _, _]) [] rfl trivial rfl pl_27 zr_27 (fun w D => .cons (.cell _) (.cons (.cell _) (.cons (.cell _) (.cons (.cell _) (.cons (.cell _) (.cons (.cell _) (.cons (.cell _) (.nil _ _)))))))) rfl) ?_
    refine e_storew rfl rfl rfl (kn rfl) rfl (kn rfl) rfl rfl sz_27 ?_
    refine e_nil ?_
    try refine e_fl ?_
    exact e_return rfl rfl (.cell rfl rfl rfl agg_27 sz_27 rfl (.nil)) (Imp.many (by rw [e]; exact ⟨DImp.refl _, DImp.refl _, DImp.refl _, DImp.nil 8, DImp.refl _, DImp.nil 7, DImp.nil 14, trivial⟩)) rfl
  have e : vfind v key = (gat (pto key) v.pairs).2 := by
    unfold vfind gat
    rw [if_pos (by simpa using h), findp_found key (rises_right hr)]
    split <;> rfl
  try refine e_fl ?_
  refine e_list ?_
  refine l_op (s_faddr_box rfl (kn rfl) off_27_6) ?_
  refine l_op (s_load1_box rfl (kn rfl) rfl rfl one_25) ?_
  refine l_op (s_loadn_box (ds := [_, _, _, _, _, _, _]) 7 rfl (kn rfl) rfl rfl agg_27 sz_27 rfl) ?_
  refine l_op (s_build (ds := [_, _, _, _, _, _, _, _, _, _, .row 8 0 [], _, .row 7 0 [], .row 14 0 []]) [(0, _)] rfl ⟨rfl, (kn rfl), trivial⟩ rfl pl_62 zr_62 (fun w D => .cons (.cell _) (.cons (.cell _) (.cons (.cell _) (.cons (.cell _) (.cons (.cell _) (.cons (.cell _) (.cons (.cell _) (.cons (.cell _) (.cons (.cell _) (.cons (.cell _) (.cons (.none _ _ _) (.cons (.cell _) (.cons (.none _ _ _) (.cons (.none _ _ _) (.nil _ _))))))))))))))) rfl) ?_
  refine l_op (s_call rfl (by kernel_rfl) (found_pairs_ef 59 (by kernel_rfl) v.pairs (short_len hs).2.2 (key, Vl.zero) (pto key) (pto_mono (rises_right hr)) (fun y hy => byKey_ef y (key, Vl.zero) (vcompare_ef y.1 (short_pair hs hy).1 key hk))) ⟨(kn rfl), ⟨(kn rfl), ⟨(kn rfl), trivial⟩⟩⟩) ?_
  refine l_op (s_fieldn (off := 7) rfl (kn rfl) (by kernel_rfl) agg_27 sz_27) ?_
  refine e_storew rfl rfl rfl (kn rfl) rfl (kn rfl) rfl rfl sz_27 ?_
  refine e_nil ?_
  try refine e_fl ?_
  exact e_return rfl rfl (.cell rfl rfl rfl agg_27 sz_27 rfl (.nil)) (Imp.of_eq (by rw [e]; rfl)) rfl
set_option maxRecDepth 100000 in
theorem pwith_ef (v : Vl) (n : Int) (x : Vl) (hs : Short v) (hr : vright v = true) : EF Try.prog [] 20 [.many (vd v), iP n, .many (vd x)] (.part (.many (vd (vwith v n x)))) := by
  have hW := with_fields_ef 35 (by kernel_rfl) v.fields (short_len hs).1 (n, x) (!decide (x.kind = 0)) (fto n) (fright_mono (right_fields hr)) (fun y _ => byNumber_ef y (n, x))
  rw [← wfields_with n x (right_fields hr)] at hW
  refine ef_enter 27 Try.func20 rfl rfl rfl fun w D => ?_
  try refine e_fl ?_
  refine e_list ?_
  refine e_box 3 rfl rfl rfl rfl (kn rfl) rfl rfl rfl rfl ?_
  refine e_box 5 rfl rfl rfl rfl (kn rfl) rfl rfl rfl rfl ?_
  refine e_alloc 6 [.is (.int .i64 0), .is (.int .u64 0), .is (.string ⟨#[]⟩), .is (.slice none 0 0), .is (.string ⟨#[]⟩), .is (.slice none 0 0), .is (.slice none 0 0)] rfl rfl rfl rfl zr_27 (fun w D M V => ⟨rfl, fun j x v h1 h2 => cfit_is _ h1 h2 rfl⟩) rfl rfl rfl rfl ?_
  refine e_nil ?_
  try refine e_fl ?_
  refine e_plain (w_op rfl rfl rfl (s_faddr_box rfl (kn rfl) off_27_0) (w_op rfl rfl rfl (s_load1_box rfl (kn rfl) rfl rfl one_3) (w_op rfl rfl rfl (s_bin rfl (kn rfl) (kn rfl) v_neq) (w_mv rfl rfl rfl rfl rfl (Walk.gd _ rfl rfl rfl (fun h => s_move rfl (kn rfl)) (Walk.gd _ rfl rfl rfl (fun h => s_call rfl (by kernel_rfl) (fieldNumber_ef n) ⟨(kn_opt rfl h), trivial⟩) (Walk.gd _ rfl rfl rfl (fun h => s_not rfl (kn_opt rfl h)) (w_op rfl rfl rfl (s_or rfl (kn rfl) (fun hb => kn_opt rfl hb)) .nil)))))))) ?_
  try refine e_fl ?_
  refine e_cond rfl (fun h => ?_) (fun h => ?_)
  · have e : vwith v n x = v := if_neg fun hc => by
      simp [fnum, hc.1, hc.2.1, hc.2.2] at h
    try refine e_fl ?_
    refine e_list ?_
    refine l_op (s_loadn_box (ds := [_, _, _, _, _, _, _]) 7 rfl (kn rfl) rfl rfl agg_27 sz_27 rfl) ?_
    refine e_storew rfl rfl rfl (kn rfl) rfl (kn rfl) rfl rfl sz_27 ?_
    refine e_nil ?_
    try refine e_fl ?_
    exact e_return rfl rfl (.cell rfl rfl rfl agg_27 sz_27 rfl (.nil)) (Imp.of_eq (by rw [e]; rfl)) rfl
  have h3 : v.kind = 3 ∧ 1 ≤ n ∧ n ≤ 536870911 := by
    simp only [fnum, Bool.or_eq_false_iff, Bool.not_eq_false', Bool.and_eq_true, decide_eq_true_eq] at h
    exact h
  have e : vwith v n x = .mk 3 0 [] (wfields n x v.fields) v.rest [] [] := if_pos h3
  clear h
  obtain ⟨fs, r, rfl⟩ : ∃ fs r, v = .mk 3 0 [] fs r [] [] := ⟨_, _, right_msg hr h3.1⟩
  try refine e_fl ?_
  refine e_list ?_
  refine l_op (s_faddr_box rfl (kn rfl) off_27_3) ?_
  refine l_op (s_load1_box rfl (kn rfl) rfl rfl one_23) ?_
  refine l_mv ?_
  refine l_op (s_loadn_box (ds := [_, _, _, _, _, _, _]) 7 rfl (kn rfl) rfl rfl agg_27 sz_27 rfl) ?_
  refine l_op (s_build (ds := [_, _, _, _, _, _, _, _]) [(0, _), (1, _)] rfl ⟨rfl, (kn rfl), ⟨rfl, (kn rfl), trivial⟩⟩ rfl pl_58 zr_58 (fun w D => .cons (.cell _) (.cons (.cell _) (.cons (.cell _) (.cons (.cell _) (.cons (.cell _) (.cons (.cell _) (.cons (.cell _) (.cons (.cell _) (.nil _ _))))))))) rfl) ?_
  refine l_op (s_faddr_box rfl (kn rfl) off_27_0) ?_
  refine l_op (s_load1_box rfl (kn rfl) rfl rfl one_3) ?_
  refine l_op (s_bin rfl (kn rfl) (kn rfl) v_neq) ?_
  refine l_op (s_call rfl (by kernel_rfl) (hW) ⟨(kn rfl), ⟨(kn rfl), ⟨(kn rfl), ⟨(kn rfl), trivial⟩⟩⟩⟩) ?_
  refine l_op (s_faddr_box rfl (kn rfl) off_27_3) ?_
  refine e_store1 rfl rfl rfl (kn rfl) rfl (kn rfl) rfl rfl sz_23 rfl ?_
  refine e_nil ?_
  try refine e_fl ?_
  refine e_list ?_
  refine l_op (s_loadn_box (ds := [_, _, _, _, _, _, _]) 7 rfl (kn rfl) rfl rfl agg_27 sz_27 rfl) ?_
  refine e_storew rfl rfl rfl (kn rfl) rfl (kn rfl) rfl rfl sz_27 ?_
  refine e_nil ?_
  try refine e_fl ?_
  exact e_return rfl rfl (.cell rfl rfl rfl agg_27 sz_27 rfl (.nil)) (Imp.of_eq (by rw [e]; rfl)) rfl
set_option maxRecDepth 100000 in
theorem pput_ef (v key x : Vl) (hs : Short v) (hk : Short key) (hr : vright v = true) : EF Try.prog [] 24 [.many (vd v), .many (vd key), .many (vd x)] (.part (.many (vd (vput v key x)))) := by
  have hW := with_pairs_ef 59 (by kernel_rfl) v.pairs (short_len hs).2.2 (key, x) (!decide (x.kind = 0)) (pto key) (pto_mono (rises_right hr)) (fun y hy => byKey_ef y (key, x) (vcompare_ef y.1 (short_pair hs hy).1 key hk))
  rw [← ppairs_with key x (rises_right hr)] at hW
  refine ef_enter 31 Try.func24 rfl rfl rfl fun w D => ?_
  try refine e_fl ?_
  refine e_list ?_
  refine e_box 3 rfl rfl rfl rfl (kn rfl) rfl rfl rfl rfl ?_
  refine e_box 4 rfl rfl rfl rfl (kn rfl) rfl rfl rfl rfl ?_
  refine e_box 5 rfl rfl rfl rfl (kn rfl) rfl rfl rfl rfl ?_
  refine e_alloc 6 [.is (.int .i64 0), .is (.int .u64 0), .is (.string ⟨#[]⟩), .is (.slice none 0 0), .is (.string ⟨#[]⟩), .is (.slice none 0 0), .is (.slice none 0 0)] rfl rfl rfl rfl zr_27 (fun w D M V => ⟨rfl, fun j x v h1 h2 => cfit_is _ h1 h2 rfl⟩) rfl rfl rfl rfl ?_
  refine e_nil ?_
  try refine e_fl ?_
  refine e_plain (w_op rfl rfl rfl (s_faddr_box rfl (kn rfl) off_27_0) (w_op rfl rfl rfl (s_load1_box rfl (kn rfl) rfl rfl one_3) .nil)) ?_
  try refine e_fl ?_
  try refine e_fl ?_
  refine e_plain (w_op rfl rfl rfl (s_bin rfl (kn rfl) (kn rfl) v_eql) (w_as rfl rfl rfl rfl rfl .nil)) ?_
  try refine e_fl ?_
  refine e_cond rfl (fun q0 => ?_) (fun q0 => ?_)
  · have h0 := of_decide_eq_true q0
    have e : vput v key x = .mk (if 0 < (ppairs key x v.pairs).length then 5 else 0) 0 [] [] [] [] (ppairs key x v.pairs) := if_pos (.inr h0)
    obtain rfl := right_nil hr h0
    rw [Vl.pairs_mk] at e hW
    try refine e_fl ?_
    refine e_list ?_
    refine l_op (s_build (ds := [_, _, _, .row 8 0 [], _, .row 7 0 [], .row 14 0 []]) [(0, _)] rfl ⟨rfl, (kn rfl), trivial⟩ rfl pl_27 zr_27 (fun w D => .cons (.cell _) (.cons (.cell _) (.cons (.cell _) (.cons (.none _ _ _) (.cons (.cell _) (.cons (.none _ _ _) (.cons (.none _ _ _) (.nil _ _)))))))) rfl) ?_
    refine e_storew rfl rfl rfl (kn rfl) rfl (kn rfl) rfl rfl sz_27 ?_
    refine e_nil ?_
    try refine e_fl ?_
    refine e_list ?_
    refine l_op (s_faddr_box rfl (kn rfl) off_27_6) ?_
    refine l_op (s_load1_box rfl (kn rfl) rfl rfl one_25) ?_
    refine l_op (s_loadn_box (ds := [_, _, _, _, _, _, _]) 7 rfl (kn rfl) rfl rfl agg_27 sz_27 rfl) ?_
    refine l_op (s_loadn_box (ds := [_, _, _, _, _, _, _]) 7 rfl (kn rfl) rfl rfl agg_27 sz_27 rfl) ?_
    refine l_op (s_build (ds := [_, _, _, _, _, _, _, _, _, _, _, _, _, _]) [(0, _), (1, _)] rfl ⟨rfl, (kn rfl), ⟨rfl, (kn rfl), trivial⟩⟩ rfl pl_62 zr_62 (fun w D => .cons (.cell _) (.cons (.cell _) (.cons (.cell _) (.cons (.cell _) (.cons (.cell _) (.cons (.cell _) (.cons (.cell _) (.cons (.cell _) (.cons (.cell _) (.cons (.cell _) (.cons (.cell _) (.cons (.cell _) (.cons (.cell _) (.cons (.cell _) (.nil _ _))))))))))))))) rfl) ?_
    refine l_op (s_faddr_box rfl (kn rfl) off_27_0) ?_
    refine l_op (s_load1_box rfl (kn rfl) rfl rfl one_3) ?_
    refine l_op (s_bin rfl (kn rfl) (kn rfl) v_neq) ?_
    refine l_op (s_call rfl (by kernel_rfl) (hW) ⟨(kn rfl), ⟨(kn rfl), ⟨(kn rfl), ⟨(kn rfl), trivial⟩⟩⟩⟩) ?_
    refine l_op (s_faddr_box rfl (kn rfl) off_27_6) ?_
    refine e_store1 rfl rfl rfl (kn rfl) rfl (kn rfl) rfl rfl sz_25 rfl ?_
    refine e_nil ?_
    try refine e_fl ?_
    refine e_plain (w_op rfl rfl rfl (s_faddr_box rfl (kn rfl) off_27_6) (w_op rfl rfl rfl (s_load1_box rfl (kn rfl) rfl rfl one_25) (w_op rfl rfl rfl (s_len rfl (kn rfl) sle_25) (w_op rfl rfl rfl (s_bin rfl (kn rfl) (kn rfl) v_eql) .nil)))) ?_
    try refine e_fl ?_
    refine e_cond rfl (fun h => ?_) (fun h => ?_)
    · have e2 : ppairs key x [] = [] := by
        have := of_decide_eq_true h
        exact List.eq_nil_of_length_eq_zero (by omega)
      rw [e2] at e
      try refine e_fl ?_
      refine e_list ?_
      refine l_op (s_build (ds := [_, _, _, _, _, _, _]) [] rfl trivial rfl pl_27 zr_27 (fun w D => .cons (.cell _) (.cons (.cell _) (.cons (.cell _) (.cons (.cell _) (.cons (.cell _) (.cons (.cell _) (.cons (.cell _) (.nil _ _)))))))) rfl) ?_
      refine e_storew rfl rfl rfl (kn rfl) rfl (kn rfl) rfl rfl sz_27 ?_
      refine e_nil ?_
      try refine e_fl ?_
      exact e_return rfl rfl (.cell rfl rfl rfl agg_27 sz_27 rfl (.nil)) (Imp.many (by rw [e]; exact ⟨DImp.refl _, DImp.refl _, DImp.refl _, DImp.nil 8, DImp.refl _, DImp.nil 7, DImp.nil 14, trivial⟩)) rfl
    have e2 : 0 < (ppairs key x []).length := by
      have := of_decide_eq_false h
      omega
    rw [if_pos e2] at e
    try refine e_fl ?_
    refine e_list ?_
    refine l_op (s_loadn_box (ds := [_, _, _, _, _, _, _]) 7 rfl (kn rfl) rfl rfl agg_27 sz_27 rfl) ?_
    refine e_storew rfl rfl rfl (kn rfl) rfl (kn rfl) rfl rfl sz_27 ?_
    refine e_nil ?_
    try refine e_fl ?_
    exact e_return rfl rfl (.cell rfl rfl rfl agg_27 sz_27 rfl (.nil)) (Imp.of_eq (by rw [e]; rfl)) rfl
  have n0 := of_decide_eq_false q0
  try refine e_fl ?_
  refine e_plain (w_op rfl rfl rfl (s_bin rfl (kn rfl) (kn rfl) v_eql) (w_as rfl rfl rfl rfl rfl .nil)) ?_
  try refine e_fl ?_
  refine e_cond rfl (fun q5 => ?_) (fun q5 => ?_)
  · have h5 := of_decide_eq_true q5
    have e : vput v key x = .mk (if 0 < (ppairs key x v.pairs).length then 5 else 0) 0 [] [] [] [] (ppairs key x v.pairs) := if_pos (.inl h5)
    obtain ⟨ps, rfl⟩ : ∃ ps, v = .mk 5 0 [] [] [] [] ps := ⟨_, right_map hr h5⟩
    rw [Vl.pairs_mk] at e hW
    try refine e_fl ?_
    refine e_list ?_
    refine l_op (s_faddr_box rfl (kn rfl) off_27_6) ?_
    refine l_op (s_load1_box rfl (kn rfl) rfl rfl one_25) ?_
    refine l_op (s_loadn_box (ds := [_, _, _, _, _, _, _]) 7 rfl (kn rfl) rfl rfl agg_27 sz_27 rfl) ?_
    refine l_op (s_loadn_box (ds := [_, _, _, _, _, _, _]) 7 rfl (kn rfl) rfl rfl agg_27 sz_27 rfl) ?_
    refine l_op (s_build (ds := [_, _, _, _, _, _, _, _, _, _, _, _, _, _]) [(0, _), (1, _)] rfl ⟨rfl, (kn rfl), ⟨rfl, (kn rfl), trivial⟩⟩ rfl pl_62 zr_62 (fun w D => .cons (.cell _) (.cons (.cell _) (.cons (.cell _) (.cons (.cell _) (.cons (.cell _) (.cons (.cell _) (.cons (.cell _) (.cons (.cell _) (.cons (.cell _) (.cons (.cell _) (.cons (.cell _) (.cons (.cell _) (.cons (.cell _) (.cons (.cell _) (.nil _ _))))))))))))))) rfl) ?_
    refine l_op (s_faddr_box rfl (kn rfl) off_27_0) ?_
    refine l_op (s_load1_box rfl (kn rfl) rfl rfl one_3) ?_
    refine l_op (s_bin rfl (kn rfl) (kn rfl) v_neq) ?_
    refine l_op (s_call rfl (by kernel_rfl) (hW) ⟨(kn rfl), ⟨(kn rfl), ⟨(kn rfl), ⟨(kn rfl), trivial⟩⟩⟩⟩) ?_
    refine l_op (s_faddr_box rfl (kn rfl) off_27_6) ?_
    refine e_store1 rfl rfl rfl (kn rfl) rfl (kn rfl) rfl rfl sz_25 rfl ?_
    refine e_nil ?_
    try refine e_fl ?_
    refine e_plain (w_op rfl rfl rfl (s_faddr_box rfl (kn rfl) off_27_6) (w_op rfl rfl rfl (s_load1_box rfl (kn rfl) rfl rfl one_25) (w_op rfl rfl rfl (s_len rfl (kn rfl) sle_25) (w_op rfl rfl rfl (s_bin rfl (kn rfl) (kn rfl) v_eql) .nil)))) ?_
    try refine e_fl ?_
    refine e_cond rfl (fun h => ?_) (fun h => ?_)
    · have e2 : ppairs key x ps = [] := by
        have := of_decide_eq_true h
        exact List.eq_nil_of_length_eq_zero (by omega)
      rw [e2] at e
      try refine e_fl ?_
      refine e_list ?_
      refine l_op (s_build (ds := [_, _, _, _, _, _, _]) [] rfl trivial rfl pl_27 zr_27 (fun w D => .cons (.cell _) (.cons (.cell _) (.cons (.cell _) (.cons (.cell _) (.cons (.cell _) (.cons (.cell _) (.cons (.cell _) (.nil _ _)))))))) rfl) ?_
      refine e_storew rfl rfl rfl (kn rfl) rfl (kn rfl) rfl rfl sz_27 ?_
      refine e_nil ?_
      try refine e_fl ?_
      exact e_return rfl rfl (.cell rfl rfl rfl agg_27 sz_27 rfl (.nil)) (Imp.many (by rw [e]; exact ⟨DImp.refl _, DImp.refl _, DImp.refl _, DImp.nil 8, DImp.refl _, DImp.nil 7, DImp.nil 14, trivial⟩)) rfl
    have e2 : 0 < (ppairs key x ps).length := by
      have := of_decide_eq_false h
      omega
    rw [if_pos e2] at e
    try refine e_fl ?_
    refine e_list ?_
    refine l_op (s_loadn_box (ds := [_, _, _, _, _, _, _]) 7 rfl (kn rfl) rfl rfl agg_27 sz_27 rfl) ?_
    refine e_storew rfl rfl rfl (kn rfl) rfl (kn rfl) rfl rfl sz_27 ?_
    refine e_nil ?_
    try refine e_fl ?_
    exact e_return rfl rfl (.cell rfl rfl rfl agg_27 sz_27 rfl (.nil)) (Imp.of_eq (by rw [e]; rfl)) rfl
  have n5 := of_decide_eq_false q5
  have e : vput v key x = v := if_neg (by omega)
  try refine e_fl ?_
  refine e_list ?_
  refine l_op (s_loadn_box (ds := [_, _, _, _, _, _, _]) 7 rfl (kn rfl) rfl rfl agg_27 sz_27 rfl) ?_
  refine e_storew rfl rfl rfl (kn rfl) rfl (kn rfl) rfl rfl sz_27 ?_
  refine e_nil ?_
  try refine e_fl ?_
  exact e_return rfl rfl (.cell rfl rfl rfl agg_27 sz_27 rfl (.nil)) (Imp.of_eq (by rw [e]; rfl)) rfl
end Go.Proofs.Ytlikbiiimhfnkaa
namespace Go.Proofs.Ytlikbiiimhfnkaa
open Go.RowKit
theorem Vl.Good.short {v : Vl} (h : v.Good) : Short v := by
  have := h.nodes
  show vnodes v ≤ 1000000
  omega
theorem progE : ProgE where
  right v h := vright_ef v h.short
  size v h := psize_ef v h.short
  depth v h := pdepth_ef v h.short
  cmp a b ha hb := vcompare_ef a ha.short b hb.short
  same a b ha hb := vsame_ef a b ha.short hb.short
  with_ v n x hv _ hr := pwith_ef v n x hv.short hr
  get v n hv hr := pget_ef v n hv.short hr
  put v k x hv hk _ hr := pput_ef v k x hv.short hk.short hr
  find v k hv hk hr := pfind_ef v k hv.short hk.short hr
  num := pnum_ef
  str := pstr_ef
end Go.Proofs.Ytlikbiiimhfnkaa
namespace Go.Proofs.Ytlikbiiimhfnkaa
open Go.ChangeShapes Go.WideShapes Go.ChangeAt Go.RowKit
section
variable {H : Type} {enc : TypeId × Value → H} {P : Program}
theorem u64_open {x : Int} (h : (Lit.int .u64 x).wf = true) : ∃ n : Nat, x = (n : Int) ∧ n < 18446744073709551616 := by
  have h1 : IntKind.u64.min = 0 := rfl
  have h2 : IntKind.u64.max = 18446744073709551615 := rfl
  simp only [Lit.wf, Bool.and_eq_true, decide_eq_true_eq] at h
  exact ⟨x.toNat, by omega, by omega⟩
theorem i64_bd {x : Int} (h : (Lit.int .i64 x).wf = true) : -9223372036854775808 ≤ x ∧ x < 9223372036854775808 := by
  have h1 : IntKind.i64.min = -9223372036854775808 := rfl
  have h2 : IntKind.i64.max = 9223372036854775807 := rfl
  simp only [Lit.wf, Bool.and_eq_true, decide_eq_true_eq] at h
  omega
theorem trodAll_stay (hl : laidOutB P = true) {W W' : World} (hb : Below W.heap.size W W') {sp : Nat → Bool} : ∀ {ts : List TypeId} {vs : List Value} {ds : List (DataW H)} {ps : List MemPlace},
    (ts.all fun t => P.readableRec t && decide (t < P.types.size)) = true → DataW.TrodAll enc P W 0 (fun _ => true) true ts vs ds ps → (∀ p ∈ ps, p.block < W.heap.size) → (∀ p ∈ ps, sp p.block = true) →
    DataW.TrodAll enc P W' 0 sp true ts vs ds ps
  | [], _, _, _, _, h, _, _ => by
    obtain ⟨rfl, rfl, rfl⟩ := trodAll_nil h
    exact trodAll_mk0
  | t :: ts, _, _, _, ht, h, hlt, hsp => by
    simp only [List.all_cons, Bool.and_eq_true, decide_eq_true_eq] at ht
    obtain ⟨v, vs, d, ds, p, q, rfl, rfl, rfl, h0, hr⟩ := trodAll_cons h
    exact trodAll_cons_mk (WideElems.Trod_stays hl ht.1.1 ht.1.2 h0 (fun x hx => hb.same (hlt x (List.mem_append_left _ hx))) (fun x hx => hsp x (List.mem_append_left _ hx)))
      (trodAll_stay hl hb ht.2 hr (fun x hx => hlt x (List.mem_append_right _ hx)) (fun x hx => hsp x (List.mem_append_right _ hx)))
theorem law_post {f : Func} {s : ChangeSpec} {W W' : World} {args : Array Value} {ds : List (DataW H)} {before : List MemPlace}
    (hl : laidOutB P = true) (ht : (f.params.toList.all fun t => P.readableRec t && decide (t < P.types.size)) = true)
    (hvars : s.vars = []) (hs : s.fn H (ds ++ []) = { results := [.lit (.bool true)], args := ds }) {tb : TypeId} (hres : f.resultTypes = #[tb]) (hbool : P.underlying tb = some .bool)
    (hW : DataW.Whole enc P f.params.toList s.vars false W args.toList ds [] before)
    (hA : DataW.TrodAll enc P W 0 (fun _ => true) true f.params.toList args.toList ds before) (hb : Below W.heap.size W W') :
    s.post enc P f false true false false W args (.bool true) W' := by
  have hlt : ∀ p ∈ before, p.block < W.heap.size := fun p hp => hW.lt p hp
  have e1 : (Value.bool true).resultList f.resultTypes.size = [Value.bool true] := by rw [hres]; rfl
  refine ⟨ds, [], before, [], before, [], hW, ?_, ?_, ?_, World.keptBut_mono (fun p hp => ⟨hp, by simpa using hp⟩) (hb.frame (· ∈ before)), fun h => by cases h⟩
  · rw [hs, e1, hres]
    exact trodAll_mk1 (shut_bool hbool _)
  · rw [hs]
    exact trodAll_stay hl hb ht hA hlt (fun p hp => by simpa using hlt p hp)
  · rw [hs, hvars]
    rfl
end
end Go.Proofs.Ytlikbiiimhfnkaa
namespace Go.Proofs.Ytlikbiiimhfnkaa
open Go.ChangeShapes Go.WideShapes Go.ChangeAt Go.RowKit
theorem str_bytes (s : ByteArray) : str s.data.toList = s := by
  unfold str
  simp
section
variable {H : Type} {enc : TypeId × Value → H} {w : World} {base : Nat} {spare : Nat → Bool} {held : Bool}
theorem cellsVal : Try.prog.cellsOf 27 = 7 := by kernel_rfl
theorem cellsFld : Try.prog.cellsOf 58 = 8 := by kernel_rfl
theorem cellsPar : Try.prog.cellsOf 62 = 14 := by kernel_rfl
theorem cellsInt : Try.prog.cellsOf 3 = 1 := by kernel_rfl
theorem cellsU64v : Try.prog.cellsOf 22 = 1 := by kernel_rfl
theorem cellsStr : Try.prog.cellsOf 9 = 1 := by kernel_rfl
theorem cellsFs : Try.prog.cellsOf 23 = 1 := by kernel_rfl
theorem cellsVs : Try.prog.cellsOf 24 = 1 := by kernel_rfl
theorem cellsPs : Try.prog.cellsOf 25 = 1 := by kernel_rfl
set_option maxRecDepth 100000 in
set_option maxHeartbeats 1000000 in
theorem trod_val : ∀ (fuel : Nat) (cs : List Value) (x : DataW H × List MemPlace), DataW.trod enc Try.prog w base spare held fuel 27 cs = some x → ∃ v : Vl, Fits w (Old w) v.dats cs ∧ v.Fine := by
  intro fuel
  induction fuel using Nat.strongRecOn with
  | ind fuel ih =>
    intro cs x h
    obtain ⟨xs, m, rfl, _, hcl, hxl, hf⟩ := DataW.trod_struct Try.underlying27 h
    rw [cellsVal] at hcl
    match cs, hcl, xs, hxl with
    | [c0, c1, c2, c3, c4, c5, c6], _, [y0, y1, y2, y3, y4, y5, y6], _ =>
      have h0 : DataW.trod enc Try.prog w base spare held m 3 [c0] = some y0 := by simpa [cellsInt] using hf 0 _ rfl
      have h1 : DataW.trod enc Try.prog w base spare held m 22 [c1] = some y1 := by simpa [cellsU64v] using hf 1 _ rfl
      have h2 : DataW.trod enc Try.prog w base spare held m 9 [c2] = some y2 := by simpa [cellsStr] using hf 2 _ rfl
      have h3 : DataW.trod enc Try.prog w base spare held m 23 [c3] = some y3 := by simpa [cellsFs] using hf 3 _ rfl
      have h4 : DataW.trod enc Try.prog w base spare held m 9 [c4] = some y4 := by simpa [cellsStr] using hf 4 _ rfl
      have h5 : DataW.trod enc Try.prog w base spare held m 24 [c5] = some y5 := by simpa [cellsVs] using hf 5 _ rfl
      have h6 : DataW.trod enc Try.prog w base spare held m 25 [c6] = some y6 := by simpa [cellsPs] using hf 6 _ rfl
      obtain ⟨k, e0, _, wk⟩ := DataW.trod_int Try.underlying3 h0
      obtain ⟨z, e1, _, wz⟩ := DataW.trod_int Try.underlying22 h1
      obtain ⟨s, e2, _, ws⟩ := DataW.trod_string Try.underlying9 h2
      obtain ⟨t, e4, _, wt⟩ := DataW.trod_string Try.underlying9 h4
      obtain ⟨n, rfl, hn⟩ := u64_open wz
      obtain ⟨lo, hi⟩ := i64_bd wk
      obtain ⟨pf, fs, cf, e3, lf, ff, mf, mf'⟩ := open_row (f := fieldDats) (F := fun f : Int × Vl => (-9223372036854775808 ≤ f.1 ∧ f.1 < 9223372036854775808) ∧ f.2.Fine) Try.underlying23 (by omega) cellsFld fieldDats_len (fun n hn cs x hx => by
        obtain ⟨zs, q, rfl, _, hzl, hql, hg⟩ := DataW.trod_struct Try.underlying58 hx
        rw [cellsFld] at hzl
        match cs, hzl, zs, hql with
        | d0 :: ds, hds, [u0, u1], _ =>
          have hds : ds.length = 7 := by simpa using hds
          have g0 : DataW.trod enc Try.prog w base spare held q 3 [d0] = some u0 := by simpa [cellsInt] using hg 0 _ rfl
          have g1 : DataW.trod enc Try.prog w base spare held q 27 ds = some u1 := by
            have := hg 1 _ rfl
            change DataW.trod _ _ _ _ _ _ _ 27 (ds.take (Try.prog.cellsOf 27)) = some u1 at this
            rw [cellsVal] at this
            rwa [List.take_of_length_le (by omega)] at this
          obtain ⟨b, e, _, wb⟩ := DataW.trod_int Try.underlying3 g0
          obtain ⟨v, hv, hV⟩ := ih q (by omega) ds u1 g1
          simp only [List.cons.injEq, and_true] at e
          subst e
          exact ⟨(b, v), .cons (.cell _) hv, i64_bd wb, hV⟩) h3
      obtain ⟨pl, ls, cl, e5, ll, fl, ml, ml'⟩ := open_row (f := Vl.dats) (F := Vl.Fine) Try.underlying24 (by omega) cellsVal Vl.dats_len (fun n hn cs x hx => ih n (by omega) cs x hx) h5
      obtain ⟨pp, ps, cp, e6, lp, fp, mp, mp'⟩ := open_row (f := pairDats) (F := fun p : Vl × Vl => p.1.Fine ∧ p.2.Fine) Try.underlying25 (by omega) cellsPar pairDats_len (fun n hn cs x hx => by
        obtain ⟨zs, q, rfl, _, hzl, hql, hg⟩ := DataW.trod_struct Try.underlying62 hx
        rw [cellsPar] at hzl
        match zs, hql with
        | [u0, u1], _ =>
          have g0 := hg 0 _ rfl
          have g1 := hg 1 _ rfl
          change DataW.trod _ _ _ _ _ _ _ 27 (cs.take (Try.prog.cellsOf 27)) = some u0 at g0
          change DataW.trod _ _ _ _ _ _ _ 27 ((cs.drop 7).take (Try.prog.cellsOf 27)) = some u1 at g1
          rw [cellsVal] at g0 g1
          obtain ⟨a, ha, hA⟩ := ih q (by omega) _ u0 g0
          obtain ⟨b, hb, hB⟩ := ih q (by omega) _ u1 g1
          refine ⟨(a, b), ?_, hA, hB⟩
          have := ha.append hb
          rw [List.take_of_length_le (l := cs.drop 7) (by rw [List.length_drop]; omega), List.take_append_drop] at this
          exact this) h6
      simp only [List.cons.injEq, and_true] at e0 e1 e2 e3 e4 e5 e6
      subst e0 e1 e2 e3 e4 e5 e6
      refine ⟨.mk k n s.data.toList fs t.data.toList ls ps, ?_, .mk _ lo hi hn (by show s.data.toList.length ≤ maxLen; simpa using ws) (by show t.data.toList.length ≤ maxLen; simpa using wt) (by show fs.length ≤ _; omega) (by show ls.length ≤ _; omega) (by show ps.length ≤ _; omega) (fun f hf => (ff f hf).1) (fun f hf => (ff f hf).2) fl (fun p hp => (fp p hp).1) (fun p hp => (fp p hp).2)⟩
      have := Vl.shut (v := .mk k n s.data.toList fs t.data.toList ls ps) lf ll lp
      unfold vcells at this
      rw [Vl.text_mk, Vl.rest_mk, str_bytes, str_bytes] at this
      exact this
set_option maxRecDepth 100000 in
theorem open_value {r : Reach} {b0 : Nat} {v : Value} {d : DataW H} {ps : List MemPlace} (hval : Value.okWide Try.prog w r b0 27 v) (h : DataW.Trod enc Try.prog w base spare held 27 v d ps) :
    ∃ (x : Vl) (cs : List Value), v = .agg cs.toArray ∧ Fits w (Old w) x.dats cs ∧ x.Fine := by
  obtain ⟨cs, rfl, _⟩ := okWide_struct Try.underlying27 hval
  obtain ⟨fuel, hf⟩ := h
  obtain ⟨x, hx, hF⟩ := trod_val fuel _ _ hf
  refine ⟨x, cs.toList, by simp, ?_, hF⟩
  simpa [Value.cells] using hx
end
end Go.Proofs.Ytlikbiiimhfnkaa
