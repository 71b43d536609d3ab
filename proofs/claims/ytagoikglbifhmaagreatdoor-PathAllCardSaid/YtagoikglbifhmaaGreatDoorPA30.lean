/- Part 30 of what the last text of this claim is proved by: walks over the program, and the math behind them. Conditions: as each theorem says. -/
import Derived.Test.YtagoikglbifhmaaGreatDoorPA29
import Derived.Test.YtagoikglbifhmaaGreatDoorProg
import Derived.Test.YtagoikglbifhmaaGreatDoorRows
import Derived.ProofKit
import Derived.LaidMore
import Derived.LaidLaws
import Derived.Stop.LaidErr
import Derived.MakeChecks
import Derived.Lib.LaidTab
import Derived.OpenShut
import Derived.Carry
import Derived.ChangeSame
namespace Go.Proofs.YtagoikglbifhmaaGreatDoor
open Go.RowKit
theorem short_of_big {a : Bool} {v : Vl} (h : (!a) = true) (hb : a = vbig v 100) : Short v := by
  have h1 : a = false := by
    cases a
    · rfl
    · cases h
  rw [h1] at hb
  have := (vbig_no (by decide) hb.symm).1
  show vnodes v ≤ 1000000
  omega
set_option maxRecDepth 100000 in
theorem pbegins_ef (a b : List St) (ha : a.length ≤ 1000000) (hb : b.length ≤ 1000000) (ka : KeysShort a) (kb : KeysShort b) : EF Tryz.prog [] 20 [stD a, stD b] (.part (tP (pbeg a b))) := by
  have hs := psame_ef a (b.take a.length) ha (by rw [List.length_take]; omega) ka (fun s hs => kb s (List.mem_of_mem_take hs))
  refine ef_enter 18 Tryz.func20 rfl rfl rfl fun w D => ?_
  try refine e_fl ?_
  refine e_plain (w_as rfl rfl rfl rfl rfl .nil) ?_
  try refine e_fl ?_
  refine e_plain (w_mv rfl rfl rfl rfl rfl (w_op rfl rfl rfl (s_len rfl (kn rfl) sle_29) (w_mv rfl rfl rfl rfl rfl (w_op rfl rfl rfl (s_len rfl (kn rfl) sle_29) (w_op rfl rfl rfl (s_bin rfl (kn rfl) (kn rfl) v_leq) (w_mv rfl rfl rfl rfl rfl (Walk.gd _ rfl rfl rfl (fun h => s_move rfl (kn rfl)) (Walk.gd _ rfl rfl rfl (fun h => s_move rfl (kn rfl)) (Walk.gd _ rfl rfl rfl (fun h => s_move rfl (kn rfl)) (Walk.gd _ rfl rfl rfl (fun h => s_len rfl (kn_opt rfl h) sle_29) (Walk.gd _ rfl rfl rfl (fun h => s_rslice_to rfl (kn_opt rfl h) (kn_opt rfl h) ⟨by omega, of_decide_eq_true h⟩ stDats_len sle_29 esz_29) (Walk.gd _ rfl rfl rfl (fun h => s_call rfl (by kernel_rfl) (hs) ⟨(kn_opt rfl h), ⟨(kn_opt rfl h), trivial⟩⟩) (w_op rfl rfl rfl (s_and rfl (kn rfl) (fun hb => kn_opt rfl hb)) (w_as rfl rfl rfl rfl rfl .nil)))))))))))))) ?_
  try refine e_fl ?_
  exact e_return rfl rfl (.tmp (kn rfl) (.nil)) (tP_eq (by unfold pbeg; simp)) rfl
set_option maxRecDepth 100000 in
set_option maxHeartbeats 1000000 in
theorem rself_ef (p : List St) (hl : p.length ≤ 1000000) (hk : KeysFine p) : EF Tryz.prog [] 19 [stD p, stD p] (.part (tP true)) := by
  refine ef_enter 52 Tryz.func19 rfl rfl rfl fun w D => ?_
  try refine e_fl ?_
  refine e_plain (w_as rfl rfl rfl rfl rfl .nil) ?_
  try refine e_fl ?_
  refine e_plain (w_mv rfl rfl rfl rfl rfl (w_op rfl rfl rfl (s_len rfl (kn rfl) sle_44) (w_mv rfl rfl rfl rfl rfl (w_op rfl rfl rfl (s_len rfl (kn rfl) sle_44) (w_op rfl rfl rfl (s_bin rfl (kn rfl) (kn rfl) v_neq) .nil))))) ?_
  try refine e_fl ?_
  refine e_cond rfl (fun h => absurd h (by simp)) (fun _ => ?_)
  try refine e_fl ?_
  refine e_plain (w_mv rfl rfl rfl rfl rfl (w_op rfl rfl rfl (s_len rfl (kn rfl) sle_44) (w_mv rfl rfl rfl rfl rfl .nil))) ?_
  try refine e_fl ?_
  refine e_loop (ι := { k : Nat // k ≤ p.length })
    (fun k => [(0, .part (stD p)), (1, .part (stD p)), (13, .part (stD p)), (14, .is (.int .i64 (p.length : Int))), (15, .is (.int .i64 (k.1 : Int)))])
    (fun _ => []) (fun _ => []) (fun k => p.length - k.1) ⟨0, by omega⟩
    (fun K => e_sub ⟨s_t, s_t, s_t, s_t, s_t, trivial⟩ trivial trivial) ?_
  rintro ⟨k, hkl⟩
  dsimp only at hkl ⊢
  try refine e_fl ?_
  refine e_plain (w_op rfl rfl rfl (s_bin rfl (kn rfl) (kn rfl) v_lss) .nil) ?_
  try refine e_fl ?_
  refine e_cond rfl (fun h => ?_) (fun h => ?_)
  · have hlt : k < p.length := by have := of_decide_eq_true h; omega
    obtain ⟨s, hs⟩ : ∃ s, p[k]? = some s := ⟨_, List.getElem?_eq_getElem hlt⟩
    have hf := hk s (List.mem_of_getElem? hs)
    try refine e_fl ?_
    refine e_list ?_
    refine l_mv ?_
    refine l_op (s_index rfl (kn rfl) (kn rfl) (by omega) hs stDats_len sle_44 esz_44 (stDats_sd s)) ?_
    refine l_op (s_loadn_ref rfl (kn rfl) agg_76 sz_76) ?_
    refine e_alloc 6 [.is (.int .i64 0), .is (.int .i64 0), .is (.int .i64 0), .is (.int .i64 0), .is (.int .u64 0), .is (.string ⟨#[]⟩), .is (.slice none 0 0), .is (.string ⟨#[]⟩), .is (.slice none 0 0), .is (.slice none 0 0)] rfl rfl rfl rfl zr_76 (fun w D M V => ⟨rfl, fun j x v h1 h2 => cfit_is _ h1 h2 rfl⟩) rfl rfl rfl rfl ?_
    refine l_as ?_
    refine e_storew rfl rfl rfl (kn rfl) rfl (kn rfl) rfl rfl sz_76 ?_
    refine e_nil ?_
    try refine e_fl ?_
    refine e_list ?_
    refine l_mv ?_
    refine l_mv ?_
    refine l_op (s_index rfl (kn rfl) (kn rfl) (by omega) hs stDats_len sle_44 esz_44 (stDats_sd s)) ?_
    refine l_op (s_loadn_ref rfl (kn rfl) agg_76 sz_76) ?_
    refine e_alloc 7 [.is (.int .i64 0), .is (.int .i64 0), .is (.int .i64 0), .is (.int .i64 0), .is (.int .u64 0), .is (.string ⟨#[]⟩), .is (.slice none 0 0), .is (.string ⟨#[]⟩), .is (.slice none 0 0), .is (.slice none 0 0)] rfl rfl rfl rfl zr_76 (fun w D M V => ⟨rfl, fun j x v h1 h2 => cfit_is _ h1 h2 rfl⟩) rfl rfl rfl rfl ?_
    refine e_storew rfl rfl rfl (kn rfl) rfl (kn rfl) rfl rfl sz_76 ?_
    refine e_nil ?_
    try refine e_fl ?_
    refine e_plain (w_op rfl rfl rfl (s_faddr_box rfl (kn rfl) off_76_0) (w_op rfl rfl rfl (s_load1_box rfl (kn rfl) rfl rfl one_3) (w_op rfl rfl rfl (s_faddr_box rfl (kn rfl) off_76_0) (w_op rfl rfl rfl (s_load1_box rfl (kn rfl) rfl rfl one_3) (w_op rfl rfl rfl (s_bin rfl (kn rfl) (kn rfl) v_neq) (w_mv rfl rfl rfl rfl rfl (Walk.gd _ rfl rfl rfl (fun h => s_faddr_box rfl (kn rfl) off_76_1) (Walk.gd _ rfl rfl rfl (fun h => s_load1_box rfl (kn_opt rfl h) rfl rfl one_3) (Walk.gd _ rfl rfl rfl (fun h => s_faddr_box rfl (kn rfl) off_76_1) (Walk.gd _ rfl rfl rfl (fun h => s_load1_box rfl (kn_opt rfl h) rfl rfl one_3) (Walk.gd _ rfl rfl rfl (fun h => s_bin rfl (kn_opt rfl h) (kn_opt rfl h) v_neq) (w_op rfl rfl rfl (s_or rfl (kn rfl) (fun hb => kn_opt rfl hb)) (w_mv rfl rfl rfl rfl rfl (Walk.gd _ rfl rfl rfl (fun h => s_faddr_box rfl (kn rfl) off_76_2) (Walk.gd _ rfl rfl rfl (fun h => s_load1_box rfl (kn_opt rfl h) rfl rfl one_3) (Walk.gd _ rfl rfl rfl (fun h => s_faddr_box rfl (kn rfl) off_76_2) (Walk.gd _ rfl rfl rfl (fun h => s_load1_box rfl (kn_opt rfl h) rfl rfl one_3) (Walk.gd _ rfl rfl rfl (fun h => s_bin rfl (kn_opt rfl h) (kn_opt rfl h) v_neq) (w_op rfl rfl rfl (s_or rfl (kn rfl) (fun hb => kn_opt rfl hb)) (w_mv rfl rfl rfl rfl rfl (Walk.gd _ rfl rfl rfl (fun h => s_faddr_box rfl (kn rfl) off_76_3) (Walk.gd _ rfl rfl rfl (fun h => s_loadn_box (ds := [_, _, _, _, _, _, _]) 7 rfl (kn_opt rfl h) rfl rfl agg_40 sz_40 rfl) (Walk.gd _ rfl rfl rfl (fun h => s_faddr_box rfl (kn rfl) off_76_3) (Walk.gd _ rfl rfl rfl (fun h => s_loadn_box (ds := [_, _, _, _, _, _, _]) 7 rfl (kn_opt rfl h) rfl rfl agg_40 sz_40 rfl) (Walk.gd _ rfl rfl rfl (fun h => s_call rfl (by kernel_rfl) (same_ef s.key s.key hf hf) ⟨(kn_opt rfl h), ⟨(kn_opt rfl h), trivial⟩⟩) (Walk.gd _ rfl rfl rfl (fun h => s_not rfl (kn_opt rfl h)) (w_op rfl rfl rfl (s_or rfl (kn rfl) (fun hb => kn_opt rfl hb)) .nil))))))))))))))))))))))))))) ?_
    try refine e_fl ?_
    refine e_cond rfl (fun h => absurd h (by simp [vcmp_self])) (fun _ => ?_)
    try refine e_fl ?_
    refine e_plain (w_op rfl rfl rfl (s_bin rfl (kn rfl) (kn rfl) (v_add64 (by first | omega | (dsimp only; omega) | omega))) (w_mv rfl rfl rfl rfl rfl .nil)) ?_
    try refine e_fl ?_
    refine e_again ⟨k + 1, by omega⟩ (by dsimp only; omega) (fun K => e_sub ⟨s_t, s_t, s_t, s_t, s_t, trivial⟩ trivial trivial)
  try refine e_fl ?_
  refine e_plain (w_as rfl rfl rfl rfl rfl .nil) ?_
  try refine e_fl ?_
  exact e_return rfl rfl (.tmp (kn rfl) (.nil)) (tP_eq rfl) rfl
theorem pall_ef' (v : Vl) (hv : Gp v) : EF Tryz.prog [] 17 [.many (vd v)] (.part (aF (allP v))) := by
  have h := pall_ef v hv
  unfold aD at h
  rw [flat_pd] at h
  exact h
theorem all_len {v : Vl} {p : List St} (h : p ∈ allP v) (hn : vnodes v ≤ 1000) : p.length ≤ 1000000 := by
  have := all_depth v p h
  omega
set_option maxRecDepth 100000 in
set_option maxHeartbeats 4000000 in
theorem palls_q {gls : List (Nat × List Value)} {eF : Value} (hg : PG gls eF) (v : Vl) (hv : v.Fine) : EFq Tryz.prog Tb gls 4 [.many (vd v)] (.part (tP true)) := by
  refine efq_enter 91 Tryz.func4 rfl rfl rfl fun w D hq => ?_
  try refine e_fl ?_
  refine e_list ?_
  refine e_box 1 rfl rfl rfl rfl (kn rfl) rfl rfl rfl rfl ?_
  refine l_as ?_
  refine e_nil ?_
  try refine e_fl ?_
  refine e_plain (w_op rfl rfl rfl (s_callw rfl (by kernel_rfl) (efq_w tb_stab hq (palive_q hg) (fun _ h => h) (fun _ h => h)) trivial) (w_op rfl rfl rfl (s_not rfl (kn rfl)) .nil)) ?_
  try refine e_fl ?_
  refine e_cond rfl (fun h => ?_) (fun h => ?_)
  · cases h
  try refine e_fl ?_
  refine e_plain (w_op rfl rfl rfl (s_loadn_box (ds := [_, _, _, _, _, _, _]) 7 rfl (kn rfl) rfl rfl agg_27 sz_27 rfl) (w_op rfl rfl rfl (s_call rfl (by kernel_rfl) ((big_ef v 100 hv (by decide) (by decide)).up) ⟨(kn rfl), ⟨(kn rfl), trivial⟩⟩) (w_mv rfl rfl rfl rfl rfl (Walk.gd _ rfl rfl rfl (fun h => s_loadn_box (ds := [_, _, _, _, _, _, _]) 7 rfl (kn rfl) rfl rfl agg_27 sz_27 rfl) (Walk.gd _ rfl rfl rfl (fun h => s_call rfl (by kernel_rfl) ((vright_ef v (short_of_big h rfl)).up) ⟨(kn_opt rfl h), trivial⟩) (Walk.gd _ rfl rfl rfl (fun h => s_not rfl (kn_opt rfl h)) (w_op rfl rfl rfl (s_or rfl (kn rfl) (fun hb => kn_opt rfl hb)) .nil))))))) ?_
  try refine e_fl ?_
  refine e_cond rfl (fun h1 => ?_) (fun h1 => ?_)
  · try refine e_fl ?_
    refine e_plain (w_as rfl rfl rfl rfl rfl .nil) ?_
    try refine e_fl ?_
    exact e_return rfl rfl (.tmp (kn rfl) (.nil)) (tP_eq rfl) rfl
  simp only [Bool.or_eq_false_iff, Bool.not_eq_false'] at h1
  obtain ⟨hb, hr⟩ := h1
  have hgd := big_gd hv hb hr
  obtain ⟨hn0, htx⟩ := vbig_no (by decide) hb
  have hgp : Gp v := ⟨hgd, htx, by omega⟩
  have hn := hgp.n
  have hlen := allP_len v
  try refine e_fl ?_
  refine e_plain (w_op rfl rfl rfl (s_loadn_box (ds := [_, _, _, _, _, _, _]) 7 rfl (kn rfl) rfl rfl agg_27 sz_27 rfl) (w_op rfl rfl rfl (s_call rfl (by kernel_rfl) ((pall_ef' v hgp).up) ⟨(kn rfl), trivial⟩) (w_as rfl rfl rfl rfl rfl .nil))) ?_
  try refine e_fl ?_
  refine e_plain (w_op rfl rfl rfl (s_loadn_box (ds := [_, _, _, _, _, _, _]) 7 rfl (kn rfl) rfl rfl agg_27 sz_27 rfl) (w_op rfl rfl rfl (s_call rfl (by kernel_rfl) ((of_ef v hgd.s).up) ⟨(kn rfl), trivial⟩) (w_op rfl rfl rfl (s_call rfl (by kernel_rfl) ((rall_ef v hn).up) ⟨(kn rfl), trivial⟩) (w_as rfl rfl rfl rfl rfl .nil)))) ?_
  try refine e_fl ?_
  refine e_plain (w_mv rfl rfl rfl rfl rfl (w_op rfl rfl rfl (s_len rfl (kn rfl) sle_49) (w_mv rfl rfl rfl rfl rfl (w_op rfl rfl rfl (s_len rfl (kn rfl) sle_51) (w_op rfl rfl rfl (s_bin rfl (kn rfl) (kn rfl) v_neq) .nil))))) ?_
  try refine e_fl ?_
  refine e_cond rfl (fun h => absurd h (by simp)) (fun _ => ?_)
  try refine e_fl ?_
  refine e_plain (w_mv rfl rfl rfl rfl rfl (w_op rfl rfl rfl (s_len rfl (kn rfl) sle_49) (w_mv rfl rfl rfl rfl rfl .nil))) ?_
  try refine e_fl ?_
  refine e_loop (ι := { k : Nat // k ≤ (allP v).length })
    (fun k => [(1, .box 1 0), (3, .part (aF (allP v))), (4, .part (aF (allP v))), (28, .part (aF (allP v))), (29, .is (.int .i64 ((allP v).length : Int))), (30, .is (.int .i64 (k.1 : Int)))])
    (fun _ => [(1, ⟨27, bcs (vd v)⟩)]) (fun _ => []) (fun k => (allP v).length - k.1) ⟨0, by omega⟩
    (fun K => e_sub ⟨s_t, s_t, s_t, s_t, s_t, s_t, trivial⟩ ⟨s_b, trivial⟩ trivial) ?_
  rintro ⟨k, hkl⟩
  dsimp only at hkl ⊢
  try refine e_fl ?_
  refine e_plain (w_op rfl rfl rfl (s_bin rfl (kn rfl) (kn rfl) v_lss) .nil) ?_
  try refine e_fl ?_
  refine e_cond rfl (fun h => ?_) (fun h => ?_)
  · have hlt : k < (allP v).length := by have := of_decide_eq_true h; omega
    obtain ⟨p, hp⟩ : ∃ p, (allP v)[k]? = some p := ⟨_, List.getElem?_eq_getElem hlt⟩
    have hm := List.mem_of_getElem? hp
    obtain ⟨x, hx1, hx2⟩ := all_get v hgp p hm
    obtain ⟨hr1, hr2, hr3⟩ := all_right v hgp p hm
    have hpl := all_len hm hn
    have hkf : KeysFine p := fun s hs => (hr3 s hs).1
    have hge := pget_ef v hgd p hpl hr2
    rw [pget_rget v p hgd, hx1] at hge
    obtain ⟨p0, hp0⟩ : ∃ p0, (allP v)[0]? = some p0 := ⟨_, List.getElem?_eq_getElem (by omega)⟩
    have hp00 := all_first hp0
    subst hp00
    obtain ⟨q, hq, hq2, hq3⟩ : ∃ q, (0 < k → (allP v)[k - 1]? = some q ∧ pbeg p q = false) ∧ q.length ≤ 1000000 ∧ KeysShort q := by
      by_cases hk0 : 0 < k
      · have hlt1 : k - 1 < (allP v).length := by omega
        obtain ⟨q, hq⟩ : ∃ q, (allP v)[k - 1]? = some q := ⟨_, List.getElem?_eq_getElem hlt1⟩
        have hqm := List.mem_of_getElem? hq
        exact ⟨q, fun _ => ⟨hq, nb_get (all_nb v hgp) (k - 1) q p hq (by rw [show k - 1 + 1 = k by omega]; exact hp)⟩, all_len hqm hn, (all_right v hgp q hqm).2.1⟩
      · exact ⟨[], fun h => absurd h hk0, Nat.zero_le _, fun s hs => absurd hs List.not_mem_nil⟩
    try refine e_fl ?_
    refine e_plain (w_mv rfl rfl rfl rfl rfl (w_op rfl rfl rfl (s_index rfl (kn rfl) (kn rfl) (by omega) hp pD1_len sle_49 esz_49 rfl) (w_op rfl rfl rfl (s_load1_ref rfl (kn rfl) one_29) (w_as rfl rfl rfl rfl rfl (w_as rfl rfl rfl rfl rfl .nil))))) ?_
    try refine e_fl ?_
    refine e_list ?_
    refine l_op (s_loadn_box (ds := [_, _, _, _, _, _, _]) 7 rfl (kn rfl) rfl rfl agg_27 sz_27 rfl) ?_
    refine l_mv ?_
    refine l_op (s_call rfl (by kernel_rfl) (hge.up) ⟨(kn rfl), ⟨(kn rfl), trivial⟩⟩) ?_
    refine l_mv ?_
    refine l_ex ?_
    refine l_ex ?_
    refine e_alloc 7 [.is (.int .i64 0), .is (.int .u64 0), .is (.string ⟨#[]⟩), .is (.slice none 0 0), .is (.string ⟨#[]⟩), .is (.slice none 0 0), .is (.slice none 0 0)] rfl rfl rfl rfl zr_27 (fun w D M V => ⟨rfl, fun j x v h1 h2 => cfit_is _ h1 h2 rfl⟩) rfl rfl rfl rfl ?_
    refine e_storew rfl rfl rfl (kn rfl) rfl (kn rfl) rfl rfl sz_27 ?_
    refine l_as ?_
    refine e_nil ?_
    try refine e_fl ?_
    refine e_draw mixed (by kernel_rfl) (w_mv rfl rfl rfl rfl rfl (w_op rfl rfl rfl (s_call rfl (by kernel_rfl) ((pof_ef p hpl fun s hs => (hr3 s hs).2.2).up) ⟨(kn rfl), trivial⟩) (w_mv rfl rfl rfl rfl rfl (w_mv rfl rfl rfl rfl rfl (w_op rfl rfl rfl (s_index rfl (kn rfl) (kn rfl) (by omega) hp pD1_len sle_51 esz_51 rfl) (w_op rfl rfl rfl (s_load1_ref rfl (kn rfl) one_44) (w_op rfl rfl rfl (s_call rfl (by kernel_rfl) ((rself_ef p hpl hkf).up) ⟨(kn rfl), ⟨(kn rfl), trivial⟩⟩) (w_op rfl rfl rfl (s_not rfl (kn rfl)) (w_mv rfl rfl rfl rfl rfl (Walk.gd _ rfl rfl rfl (fun h => s_move rfl (kn rfl)) (Walk.gd _ rfl rfl rfl (fun h => s_not rfl (kn_opt rfl h)) (w_op rfl rfl rfl (s_or rfl (kn rfl) (fun hb => kn_opt rfl hb)) (w_mv rfl rfl rfl rfl rfl (Walk.gd _ rfl rfl rfl (fun h => s_faddr_box rfl (kn rfl) off_27_0) (Walk.gd _ rfl rfl rfl (fun h => s_load1_box rfl (kn_opt rfl h) rfl rfl one_3) (Walk.gd _ rfl rfl rfl (fun h => s_bin rfl (kn_opt rfl h) (kn rfl) v_eql) (w_op rfl rfl rfl (s_or rfl (kn rfl) (fun hb => kn_opt rfl hb)) (w_mv rfl rfl rfl rfl rfl (Walk.gd _ rfl rfl rfl (fun h => s_move rfl (kn rfl)) (Walk.gd _ rfl rfl rfl (fun h => s_call rfl (by kernel_rfl) ((pright_ef p hpl hr2).up) ⟨(kn_opt rfl h), trivial⟩) (Walk.gd _ rfl rfl rfl (fun h => s_not rfl (kn_opt rfl h)) (w_op rfl rfl rfl (s_or rfl (kn rfl) (fun hb => kn_opt rfl hb)) (w_mv rfl rfl rfl rfl rfl (Walk.gd _ rfl rfl rfl (fun h => s_move rfl (kn rfl)) (Walk.gd _ rfl rfl rfl (fun h => s_bin rfl (kn_opt rfl h) (kn rfl) v_gtr) (Walk.gd _ rfl rfl rfl (fun h => s_move rfl (kn_opt rfl h)) (Walk.gd _ rfl rfl rfl (fun h => s_move rfl (kn rfl)) (Walk.gd _ rfl rfl rfl (fun h => s_move rfl (kn rfl)) (Walk.gd _ rfl rfl rfl (fun h => s_move rfl (kn rfl)) (Walk.gd _ rfl rfl rfl (fun h => s_bin rfl (kn_opt rfl h) (kn rfl) (v_sub64 (by first | omega | (dsimp only; omega) | omega))) (Walk.gd _ rfl rfl rfl (fun h => s_index rfl (kn_opt rfl h) (kn_opt rfl h) (by have h' := h; simp at h'; omega) (by have h' := h; simp at h'; rw [show ((k : Int) - 1).toNat = k - 1 by omega]; exact (hq (by omega)).1) pD1_len sle_49 esz_49 rfl) (Walk.gd _ rfl rfl rfl (fun h => s_load1_ref rfl (kn_opt rfl h) one_29) (Walk.gd _ rfl rfl rfl (fun h => s_call rfl (by kernel_rfl) ((pbegins_ef p q hpl hq2 hr2 hq3).up) ⟨(kn_opt rfl h), ⟨(kn_opt rfl h), trivial⟩⟩) (Walk.gd _ rfl rfl rfl (fun h => s_and rfl (kn_opt rfl h) (fun hb => kn_opt rfl (gb h hb))) (w_op rfl rfl rfl (s_or rfl (kn rfl) (fun hb => kn_opt rfl hb)) (w_mv rfl rfl rfl rfl rfl (Walk.gd _ rfl rfl rfl (fun h => s_move rfl (kn rfl)) (Walk.gd _ rfl rfl rfl (fun h => s_index rfl (kn_opt rfl h) (kn rfl) (by omega) hp0 pD1_len sle_49 esz_49 rfl) (Walk.gd _ rfl rfl rfl (fun h => s_load1_ref rfl (kn_opt rfl h) one_29) (Walk.gd _ rfl rfl rfl (fun h => s_move rfl (kn rfl)) (Walk.gd _ rfl rfl rfl (fun h => s_call rfl (by kernel_rfl) ((pbegins_ef [] p (Nat.zero_le _) hpl (fun s hs => absurd hs List.not_mem_nil) hr2).up) ⟨(kn_opt rfl h), ⟨(kn_opt rfl h), trivial⟩⟩) (Walk.gd _ rfl rfl rfl (fun h => s_not rfl (kn_opt rfl h)) (w_op rfl rfl rfl (s_or rfl (kn rfl) (fun hb => kn_opt rfl hb)) (w_mv rfl rfl rfl rfl rfl (Walk.gd _ rfl rfl rfl (fun h => s_move rfl (kn rfl)) (Walk.gd _ rfl rfl rfl (fun h => s_move rfl (kn rfl)) (Walk.gd _ rfl rfl rfl (fun h => s_call rfl (by kernel_rfl) ((psame_ef p p hpl hpl hr2 hr2).up) ⟨(kn_opt rfl h), ⟨(kn_opt rfl h), trivial⟩⟩) (Walk.gd _ rfl rfl rfl (fun h => s_not rfl (kn_opt rfl h)) (w_op rfl rfl rfl (s_or rfl (kn rfl) (fun hb => kn_opt rfl hb)) .nil))))))))))))))))))))))))))))))))))))))))))))))))) ?_
    try refine e_fl ?_
    have hpb : 0 < k → pbeg p q = false := fun h => (hq h).2
    refine e_cond rfl (fun h => absurd h ?_) (fun _ => ?_)
    · simp [hx2, hr1, pbeg_nil, psame_self]
      exact hpb
    try refine e_fl ?_
    refine e_plain (w_op rfl rfl rfl (s_bin rfl (kn rfl) (kn rfl) (v_add64 (by first | omega | (dsimp only; omega) | omega))) (w_mv rfl rfl rfl rfl rfl .nil)) ?_
    try refine e_fl ?_
    refine e_again ⟨k + 1, by omega⟩ (by dsimp only; omega) (fun K => e_sub ⟨s_t, s_t, s_t, s_t, s_t, s_t, trivial⟩ ⟨s_b, trivial⟩ trivial)
  try refine e_fl ?_
  refine e_plain (w_as rfl rfl rfl rfl rfl .nil) ?_
  try refine e_fl ?_
  exact e_return rfl rfl (.tmp (kn rfl) (.nil)) (tP_eq rfl) rfl
end Go.Proofs.YtagoikglbifhmaaGreatDoor
namespace Go.Proofs.YtagoikglbifhmaaGreatDoor
open Go.RowKit Go.ChangeShapes
theorem star : "*" ++ "errors.errorString" = "*errors.errorString" := by decide
theorem rowE (u : TypeId) (h : Tryz.prog.typeName? 3 u = some "*errors.errorString") : u = 193 :=
  typeName_ptr_named (nm := "errors.errorString") (by rw [star]; kernel_rfl) (by kernel_rfl) (by decide) u (by rw [star]; exact h)
theorem cellsES : Tryz.prog.cellsOf 195 = 1 := by kernel_rfl
theorem cellsSt1 : Tryz.prog.cellsOf 9 = 1 := by kernel_rfl
set_option maxRecDepth 100000 in
theorem err_head {W : World} {n : String} {g : Nat} {text : List UInt8} {r : List (String × DataW Unit)} (h : laidMet Tryz.prog ((n, .iface "*errors.errorString" (.ptr (.agg [.lit (.string text)]))) :: r) W) (hg : Tryz.prog.globalNamed n = some g) (ht : (Tryz.prog.globals[g]?).map (·.type) = some 56) : ∃ a, W.cell? ⟨g, 0, none⟩ = some (.iface 193 (.pointer (some a))) := by
  obtain ⟨ps, ⟨g1, t, ⟨cl⟩, f, p, q, hg1, ht1, hv, hd, _, he⟩, _, hrows⟩ := h
  cases Option.some.inj (hg.symm.trans hg1)
  cases Option.some.inj (ht.symm.trans ht1)
  have hok : ∀ u v, cl = [.iface u v] → Value.okWide Tryz.prog W .any 0 u v := fun u v hc => by
    subst hc
    exact (hrows g 0 (by rw [he]; simp [MemPlace.row])).2 u v (by simpa using World.var?_cell hg1 hv 0)
  obtain ⟨a, s, rfl, hca, hs, _, rfl⟩ := errorString_of_trod Tryz.underlying56 rowE Tryz.underlying193 Tryz.underlying195 rfl rfl Tryz.underlying9 cellsES cellsSt1 hd hok
  exact ⟨a, by simpa using World.var?_cell hg1 hv 0⟩
def gE (f s r : Value) : List (Nat × List Value) := [(0, [f]), (2, [s]), (3, [r])]
theorem gE_ok {W : World} {f s r : Value} (hf : W.cell? ⟨0, 0, none⟩ = some f) (hs : W.cell? ⟨2, 0, none⟩ = some s) (hr : W.cell? ⟨3, 0, none⟩ = some r) : GlOK (gE f s r) W := fun g cs hg => by
  simp only [gE, List.mem_cons, List.not_mem_nil, or_false, Prod.mk.injEq] at hg
  have key : ∀ (g : Nat) (v : Value), W.cell? ⟨g, 0, none⟩ = some v → g < W.heap.size ∧ ∀ (j : Nat) u, ([v] : List Value)[j]? = some u → W.cell? ⟨g, j, none⟩ = some u := fun g v h => ⟨World.block_lt_of_cell? _ _ h, fun j u hu => by
    match j, hu with
    | 0, hu =>
      obtain rfl := Option.some.inj hu
      exact h⟩
  rcases hg with ⟨rfl, rfl⟩ | ⟨rfl, rfl⟩ | ⟨rfl, rfl⟩
  · exact key _ _ hf
  · exact key _ _ hs
  · exact key _ _ hr
structure PW (W : World) (gls : List (Nat × List Value)) (eF : Value) : Prop where
  gl : GlOK gls W
  pg : PG gls eF
  tb : Tb W
theorem pow_data : Rows.laid_internal_strconv_uint64pow10 = Lib.tabData (H := Unit) .u64 Lib.pow10Tab := by kernel_rfl
theorem pth_laid {W : World} (h : laidMetH Tryz.prog Rows.pathBackRow.laid W) : ∃ gls eF, PW W gls eF := by
  rw [MakeChecks.laidMetH_plain _ _ _ (by kernel_rfl)] at h
  have h2 := h.tail.tail
  have h4 := h2.tail.tail
  obtain ⟨a, ha⟩ := err_head h4 (g := 0) (by kernel_rfl) (by kernel_rfl)
  obtain ⟨b, hb⟩ := err_head h4.tail (g := 3) (by kernel_rfl) (by kernel_rfl)
  obtain ⟨c, hc⟩ := err_head h4.tail.tail (g := 2) (by kernel_rfl) (by kernel_rfl)
  refine ⟨gE _ _ _, _, gE_ok ha hc hb, ⟨⟨⟨_, _, List.mem_cons_of_mem _ List.mem_cons_self⟩, ⟨_, _, List.mem_cons_of_mem _ (List.mem_cons_of_mem _ List.mem_cons_self)⟩⟩, List.mem_cons_self, ⟨_, _, rfl⟩⟩, ?_⟩
  rw [pow_data] at h2
  exact Lib.tabIs_of_head (g := 4) (t := 184) (e := 22) (n := 20) (by kernel_rfl) (by kernel_rfl) (by kernel_rfl) (by kernel_rfl) (by kernel_rfl) (by kernel_rfl) h2
theorem q_calls {gls : List (Nat × List Value)} {eF : Value} {W : World} {f : FuncId} {ps : List Part} {b : Bool} (hW : PW W gls eF) (h : EFq Tryz.prog Tb gls f ps (.part (tP b))) (D : Nat → Prop) (hD : ∀ g, D g → g < W.heap.size) {vs : List Value} (hp : PsFit W D ps vs) : Calls Tryz.prog f vs.toArray W fun e W' => e = .returned (.bool b) ∧ Below W.heap.size W W' :=
  (h W D vs hD hW.gl hW.tb hp).mono fun e W' ⟨v, y, h1, h2, h3, h4⟩ => by
    subst h2
    have := h4 (fun _ => 0) (fun _ => undef)
    obtain rfl := Lies.cell_eq this
    exact ⟨h1, h3⟩
end Go.Proofs.YtagoikglbifhmaaGreatDoor
namespace Go.Proofs.YtagoikglbifhmaaGreatDoor
open Go.ChangeShapes Go.WideShapes Go.ChangeAt Go.RowKit
section
variable {H : Type} {enc : TypeId × Value → H} {P : Program}
theorem u64_open {x : Int} (h : (Lit.int .u64 x).wf = true) : ∃ n : Nat, x = (n : Int) ∧ n < 18446744073709551616 := by
  have h1 : IntKind.u64.min = 0 := rfl
  have h2 : IntKind.u64.max = 18446744073709551615 := rfl
  simp only [Lit.wf, Bool.and_eq_true, decide_eq_true_eq] at h
  exact ⟨x.toNat, by omega, by omega⟩
theorem i64_bd {x : Int} (h : (Lit.int .i64 x).wf = true) : -9223372036854775808 ≤ x ∧ x < 9223372036854775808 := by
  have h1 : IntKind.i64.min = -9223372036854775808 := rfl
  have h2 : IntKind.i64.max = 9223372036854775807 := rfl
  simp only [Lit.wf, Bool.and_eq_true, decide_eq_true_eq] at h
  omega
theorem trodAll_stay (hl : laidOutB P = true) {W W' : World} (hb : Below W.heap.size W W') {sp : Nat → Bool} : ∀ {ts : List TypeId} {vs : List Value} {ds : List (DataW H)} {ps : List MemPlace},
    (ts.all fun t => P.readableRec t && decide (t < P.types.size)) = true → DataW.TrodAll enc P W 0 (fun _ => true) true ts vs ds ps → (∀ p ∈ ps, p.block < W.heap.size) → (∀ p ∈ ps, sp p.block = true) →
    DataW.TrodAll enc P W' 0 sp true ts vs ds ps
  | [], _, _, _, _, h, _, _ => by
    obtain ⟨rfl, rfl, rfl⟩ := trodAll_nil h
    exact trodAll_mk0
  | t :: ts, _, _, _, ht, h, hlt, hsp => by
    simp only [List.all_cons, Bool.and_eq_true, decide_eq_true_eq] at ht
    obtain ⟨v, vs, d, ds, p, q, rfl, rfl, rfl, h0, hr⟩ := trodAll_cons h
    exact trodAll_cons_mk (WideElems.Trod_stays hl ht.1.1 ht.1.2 h0 (fun x hx => hb.same (hlt x (List.mem_append_left _ hx))) (fun x hx => hsp x (List.mem_append_left _ hx)))
      (trodAll_stay hl hb ht.2 hr (fun x hx => hlt x (List.mem_append_right _ hx)) (fun x hx => hsp x (List.mem_append_right _ hx)))
theorem law_post {f : Func} {s : ChangeSpec} {W W' : World} {args : Array Value} {ds : List (DataW H)} {before : List MemPlace}
    (hl : laidOutB P = true) (ht : (f.params.toList.all fun t => P.readableRec t && decide (t < P.types.size)) = true)
    (hvars : s.vars = []) (hs : s.fn H (ds ++ []) = { results := [.lit (.bool true)], args := ds }) {tb : TypeId} (hres : f.resultTypes = #[tb]) (hbool : P.underlying tb = some .bool)
    (hW : DataW.Whole enc P f.params.toList s.vars false W args.toList ds [] before)
    (hA : DataW.TrodAll enc P W 0 (fun _ => true) true f.params.toList args.toList ds before) (hb : Below W.heap.size W W') :
    s.post enc P f false true false false W args (.bool true) W' := by
  have hlt : ∀ p ∈ before, p.block < W.heap.size := fun p hp => hW.lt p hp
  have e1 : (Value.bool true).resultList f.resultTypes.size = [Value.bool true] := by rw [hres]; rfl
  refine ⟨ds, [], before, [], before, [], hW, ?_, ?_, ?_, World.keptBut_mono (fun p hp => ⟨hp, by simpa using hp⟩) (hb.frame (· ∈ before)), fun h => by cases h⟩
  · rw [hs, e1, hres]
    exact trodAll_mk1 (shut_bool hbool _)
  · rw [hs]
    exact trodAll_stay hl hb ht hA hlt (fun p hp => by simpa using hlt p hp)
  · rw [hs, hvars]
    rfl
end
end Go.Proofs.YtagoikglbifhmaaGreatDoor
namespace Go.Proofs.YtagoikglbifhmaaGreatDoor
open Go.ChangeShapes Go.WideShapes Go.ChangeAt Go.RowKit
theorem str_bytes (s : ByteArray) : str s.data.toList = s := by
  unfold str
  simp
section
variable {H : Type} {enc : TypeId × Value → H} {w : World} {base : Nat} {spare : Nat → Bool} {held : Bool}
theorem cellsVal : Tryz.prog.cellsOf 27 = 7 := by kernel_rfl
theorem cellsFld : Tryz.prog.cellsOf 66 = 8 := by kernel_rfl
theorem cellsPar : Tryz.prog.cellsOf 82 = 14 := by kernel_rfl
theorem cellsInt : Tryz.prog.cellsOf 3 = 1 := by kernel_rfl
theorem cellsU64v : Tryz.prog.cellsOf 22 = 1 := by kernel_rfl
theorem cellsStr : Tryz.prog.cellsOf 9 = 1 := by kernel_rfl
theorem cellsFs : Tryz.prog.cellsOf 23 = 1 := by kernel_rfl
theorem cellsVs : Tryz.prog.cellsOf 24 = 1 := by kernel_rfl
theorem cellsPs : Tryz.prog.cellsOf 25 = 1 := by kernel_rfl
set_option maxRecDepth 100000 in
set_option maxHeartbeats 1000000 in
theorem trod_val : ∀ (fuel : Nat) (cs : List Value) (x : DataW H × List MemPlace), DataW.trod enc Tryz.prog w base spare held fuel 27 cs = some x → ∃ v : Vl, Fits w (Old w) v.dats cs ∧ v.Fine := by
  intro fuel
  induction fuel using Nat.strongRecOn with
  | ind fuel ih =>
    intro cs x h
    obtain ⟨xs, m, rfl, _, hcl, hxl, hf⟩ := DataW.trod_struct Tryz.underlying27 h
    rw [cellsVal] at hcl
    match cs, hcl, xs, hxl with
    | [c0, c1, c2, c3, c4, c5, c6], _, [y0, y1, y2, y3, y4, y5, y6], _ =>
      have h0 : DataW.trod enc Tryz.prog w base spare held m 3 [c0] = some y0 := by simpa [cellsInt] using hf 0 _ rfl
      have h1 : DataW.trod enc Tryz.prog w base spare held m 22 [c1] = some y1 := by simpa [cellsU64v] using hf 1 _ rfl
      have h2 : DataW.trod enc Tryz.prog w base spare held m 9 [c2] = some y2 := by simpa [cellsStr] using hf 2 _ rfl
      have h3 : DataW.trod enc Tryz.prog w base spare held m 23 [c3] = some y3 := by simpa [cellsFs] using hf 3 _ rfl
      have h4 : DataW.trod enc Tryz.prog w base spare held m 9 [c4] = some y4 := by simpa [cellsStr] using hf 4 _ rfl
      have h5 : DataW.trod enc Tryz.prog w base spare held m 24 [c5] = some y5 := by simpa [cellsVs] using hf 5 _ rfl
      have h6 : DataW.trod enc Tryz.prog w base spare held m 25 [c6] = some y6 := by simpa [cellsPs] using hf 6 _ rfl
      obtain ⟨k, e0, _, wk⟩ := DataW.trod_int Tryz.underlying3 h0
      obtain ⟨z, e1, _, wz⟩ := DataW.trod_int Tryz.underlying22 h1
      obtain ⟨s, e2, _, ws⟩ := DataW.trod_string Tryz.underlying9 h2
      obtain ⟨t, e4, _, wt⟩ := DataW.trod_string Tryz.underlying9 h4
      obtain ⟨n, rfl, hn⟩ := u64_open wz
      obtain ⟨lo, hi⟩ := i64_bd wk
      obtain ⟨pf, fs, cf, e3, lf, ff, mf, mf'⟩ := open_row (f := fieldDats) (F := fun f : Int × Vl => (-9223372036854775808 ≤ f.1 ∧ f.1 < 9223372036854775808) ∧ f.2.Fine) Tryz.underlying23 (by omega) cellsFld fieldDats_len (fun n hn cs x hx => by
        obtain ⟨zs, q, rfl, _, hzl, hql, hg⟩ := DataW.trod_struct Tryz.underlying66 hx
        rw [cellsFld] at hzl
        match cs, hzl, zs, hql with
        | d0 :: ds, hds, [u0, u1], _ =>
          have hds : ds.length = 7 := by simpa using hds
          have g0 : DataW.trod enc Tryz.prog w base spare held q 3 [d0] = some u0 := by simpa [cellsInt] using hg 0 _ rfl
          have g1 : DataW.trod enc Tryz.prog w base spare held q 27 ds = some u1 := by
            have := hg 1 _ rfl
            change DataW.trod _ _ _ _ _ _ _ 27 (ds.take (Tryz.prog.cellsOf 27)) = some u1 at this
            rw [cellsVal] at this
            rwa [List.take_of_length_le (by omega)] at this
          obtain ⟨b, e, _, wb⟩ := DataW.trod_int Tryz.underlying3 g0
          obtain ⟨v, hv, hV⟩ := ih q (by omega) ds u1 g1
          simp only [List.cons.injEq, and_true] at e
          subst e
          exact ⟨(b, v), .cons (.cell _) hv, i64_bd wb, hV⟩) h3
      obtain ⟨pl, ls, cl, e5, ll, fl, ml, ml'⟩ := open_row (f := Vl.dats) (F := Vl.Fine) Tryz.underlying24 (by omega) cellsVal Vl.dats_len (fun n hn cs x hx => ih n (by omega) cs x hx) h5
      obtain ⟨pp, ps, cp, e6, lp, fp, mp, mp'⟩ := open_row (f := pairDats) (F := fun p : Vl × Vl => p.1.Fine ∧ p.2.Fine) Tryz.underlying25 (by omega) cellsPar pairDats_len (fun n hn cs x hx => by
        obtain ⟨zs, q, rfl, _, hzl, hql, hg⟩ := DataW.trod_struct Tryz.underlying82 hx
        rw [cellsPar] at hzl
        match zs, hql with
        | [u0, u1], _ =>
          have g0 := hg 0 _ rfl
          have g1 := hg 1 _ rfl
          change DataW.trod _ _ _ _ _ _ _ 27 (cs.take (Tryz.prog.cellsOf 27)) = some u0 at g0
          change DataW.trod _ _ _ _ _ _ _ 27 ((cs.drop 7).take (Tryz.prog.cellsOf 27)) = some u1 at g1
          rw [cellsVal] at g0 g1
          obtain ⟨a, ha, hA⟩ := ih q (by omega) _ u0 g0
          obtain ⟨b, hb, hB⟩ := ih q (by omega) _ u1 g1
          refine ⟨(a, b), ?_, hA, hB⟩
          have := ha.append hb
          rw [List.take_of_length_le (l := cs.drop 7) (by rw [List.length_drop]; omega), List.take_append_drop] at this
          exact this) h6
      simp only [List.cons.injEq, and_true] at e0 e1 e2 e3 e4 e5 e6
      subst e0 e1 e2 e3 e4 e5 e6
      refine ⟨.mk k n s.data.toList fs t.data.toList ls ps, ?_, .mk _ lo hi hn (by show s.data.toList.length ≤ maxLen; simpa using ws) (by show t.data.toList.length ≤ maxLen; simpa using wt) (by show fs.length ≤ _; omega) (by show ls.length ≤ _; omega) (by show ps.length ≤ _; omega) (fun f hf => (ff f hf).1) (fun f hf => (ff f hf).2) fl (fun p hp => (fp p hp).1) (fun p hp => (fp p hp).2)⟩
      have := Vl.shut (v := .mk k n s.data.toList fs t.data.toList ls ps) lf ll lp
      unfold vcells at this
      rw [Vl.text_mk, Vl.rest_mk, str_bytes, str_bytes] at this
      exact this
set_option maxRecDepth 100000 in
theorem open_value {r : Reach} {b0 : Nat} {v : Value} {d : DataW H} {ps : List MemPlace} (hval : Value.okWide Tryz.prog w r b0 27 v) (h : DataW.Trod enc Tryz.prog w base spare held 27 v d ps) :
    ∃ (x : Vl) (cs : List Value), v = .agg cs.toArray ∧ Fits w (Old w) x.dats cs ∧ x.Fine := by
  obtain ⟨cs, rfl, _⟩ := okWide_struct Tryz.underlying27 hval
  obtain ⟨fuel, hf⟩ := h
  obtain ⟨x, hx, hF⟩ := trod_val fuel _ _ hf
  refine ⟨x, cs.toList, by simp, ?_, hF⟩
  simpa [Value.cells] using hx
end
end Go.Proofs.YtagoikglbifhmaaGreatDoor
