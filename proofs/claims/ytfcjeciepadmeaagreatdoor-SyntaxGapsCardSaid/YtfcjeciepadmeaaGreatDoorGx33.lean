/- Part 33 of what the last text of this claim is proved by: walks over the program, and the math behind them. Conditions: as each theorem says. -/
import Derived.Test.YtfcjeciepadmeaaGreatDoorGx32
import Derived.Test.YtfcjeciepadmeaaGreatDoorProg
namespace Go.Proofs.YtfcjeciepadmeaaGreatDoor
open Go.RowKit
set_option maxRecDepth 100000 in
theorem eqEnms_ef (a b : List Enm) (ha : a.length ≤ 100000000000) (hf : ∀ x ∈ a, x.fine) : EF Tryz.prog [] 32 [.one (.row 4 a.length (a.flatMap Enm.dats)), .one (.row 4 b.length (b.flatMap Enm.dats)), .one (.cell (.func (.func 33) #[] #[]))] (.part (bP (cdec (a = b)))) := by
 refine ef_enter 32 Tryz.func32 rfl rfl rfl fun w D => ?_
 try refine e_fl ?_
 refine e_plain (w_as rfl rfl rfl rfl rfl .nil) ?_
 try refine e_fl ?_
 refine e_plain (w_mv rfl rfl rfl rfl rfl (w_op rfl rfl rfl (s_len rfl (kn rfl) sle_24) (w_mv rfl rfl rfl rfl rfl (w_op rfl rfl rfl (s_len rfl (kn rfl) sle_24) (w_op rfl rfl rfl (s_bin rfl (kn rfl) (kn rfl) v_neq) .nil))))) ?_
 try refine e_fl ?_
 refine e_cond rfl (fun h => ?_) (fun h => ?_)
 ·have hne : ¬ a = b := fun e => by subst e; simp at h
  try refine e_fl ?_
  refine e_plain (w_as rfl rfl rfl rfl rfl .nil) ?_
  try refine e_fl ?_
  exact e_return rfl rfl (.tmp (kn rfl) (.nil)) (Imp.of_eq (by rw [cdec_no hne]; rfl)) rfl
 have hl : a.length = b.length := by
  have : (a.length : Int) = (b.length : Int) := by simpa using h
  omega
 try refine e_fl ?_
 refine e_plain (w_mv rfl rfl rfl rfl rfl (w_op rfl rfl rfl (s_len rfl (kn rfl) sle_24) (w_mv rfl rfl rfl rfl rfl .nil))) ?_
 try refine e_fl ?_
 refine e_loop (ι := { k : Nat // k ≤ a.length ∧ a.take k = b.take k })
  (fun k => [(0, .part (.one (.row 4 a.length (a.flatMap Enm.dats)))), (1, .part (.one (.row 4 b.length (b.flatMap Enm.dats)))), (2, .is (.func (.func 33) #[] #[])), (15, .part (.one (.row 4 a.length (a.flatMap Enm.dats)))), (16, .is (.int .i64 (a.length : Int))), (17, .is (.int .i64 (k.1 : Int)))])
  (fun _ => []) (fun _ => []) (fun k => a.length - k.1) ⟨0, by omega, by simp⟩
  (fun K => e_sub ⟨s_t, s_t, s_t, s_t, s_t, s_t, trivial⟩ trivial trivial) ?_
 rintro ⟨k, hk, hw⟩
 dsimp only at hk hw ⊢
 try refine e_fl ?_
 refine e_plain (w_op rfl rfl rfl (s_bin rfl (kn rfl) (kn rfl) v_lss) .nil) ?_
 try refine e_fl ?_
 refine e_cond rfl (fun h => ?_) (fun h => ?_)
 ·have hlt : k < a.length := by have := of_decide_eq_true h; omega
  obtain ⟨x, hx⟩ : ∃ x, a[k]? = some x := ⟨_, List.getElem?_eq_getElem hlt⟩
  obtain ⟨y, hy⟩ : ∃ y, b[k]? = some y := ⟨_, List.getElem?_eq_getElem (by omega)⟩
  try refine e_fl ?_
  refine e_list ?_
  refine l_mv ?_
  refine l_op (s_index rfl (kn rfl) (kn rfl) (by omega) hx Enm.dats_len sle_24 esz_24 rfl) ?_
  refine l_op (s_loadn_ref rfl (kn rfl) agg_76 sz_76) ?_
  refine e_alloc 8 [.is (.string ⟨#[]⟩), .is (.slice none 0 0), .is (.int .i64 0), .is (.int .i64 0)] rfl rfl rfl rfl zr_76 (fun w D M V => ⟨rfl, fun j x v h1 h2 => cfit_is _ h1 h2 rfl⟩) rfl rfl rfl rfl ?_
  refine l_as ?_
  refine e_storew rfl rfl rfl (kn rfl) rfl (kn rfl) rfl rfl sz_76 ?_
  refine e_nil ?_
  try refine e_fl ?_
  refine e_list ?_
  refine l_mv ?_
  refine l_mv ?_
  refine l_op (s_index rfl (kn rfl) (kn rfl) (by omega) hy Enm.dats_len sle_24 esz_24 rfl) ?_
  refine l_op (s_loadn_ref rfl (kn rfl) agg_76 sz_76) ?_
  refine e_alloc 9 [.is (.string ⟨#[]⟩), .is (.slice none 0 0), .is (.int .i64 0), .is (.int .i64 0)] rfl rfl rfl rfl zr_76 (fun w D M V => ⟨rfl, fun j x v h1 h2 => cfit_is _ h1 h2 rfl⟩) rfl rfl rfl rfl ?_
  refine e_storew rfl rfl rfl (kn rfl) rfl (kn rfl) rfl rfl sz_76 ?_
  refine e_nil ?_
  try refine e_fl ?_
  refine e_plain (w_mv rfl rfl rfl rfl rfl (w_op rfl rfl rfl (s_loadn_box (ds := [_, _, _, _]) 4 rfl (kn rfl) rfl rfl agg_76 sz_76 rfl) (w_op rfl rfl rfl (s_loadn_box (ds := [_, _, _, _]) 4 rfl (kn rfl) rfl rfl agg_76 sz_76 rfl) (w_op rfl rfl rfl (s_callf rfl (by kernel_rfl) (kn rfl) (sameEnumS_ef x y (hf x (List.mem_of_getElem? hx))) ⟨kn rfl, kn rfl, trivial⟩) (w_op rfl rfl rfl (s_not rfl (kn rfl)) .nil))))) ?_
  try refine e_fl ?_
  refine e_cond rfl (fun h1 => ?_) (fun h1 => ?_)
  ·have hne : ¬ a = b := fun e => by
    subst e
    rw [hx] at hy
    obtain rfl := Option.some.inj hy
    rw [cdec_yes rfl] at h1
    cases h1
   try refine e_fl ?_
   refine e_plain (w_as rfl rfl rfl rfl rfl .nil) ?_
   try refine e_fl ?_
   exact e_return rfl rfl (.tmp (kn rfl) (.nil)) (Imp.of_eq (by rw [cdec_no hne]; rfl)) rfl
  obtain rfl : x = y := cdec_neg h1
  try refine e_fl ?_
  refine e_plain (w_op rfl rfl rfl (s_bin rfl (kn rfl) (kn rfl) (v_add64 (by first | omega | (dsimp only; omega) | omega))) (w_mv rfl rfl rfl rfl rfl .nil)) ?_
  try refine e_fl ?_
  refine e_again ⟨k + 1, by omega, take_more hw hx hy⟩ (by dsimp only; omega) (fun K => e_sub ⟨s_t, s_t, s_t, s_t, s_t, s_t, trivial⟩ trivial trivial)
 ·have hge : a.length ≤ k := by have := of_decide_eq_false h; omega
  have he := take_all hw hge (by omega)
  try refine e_fl ?_
  refine e_plain (w_as rfl rfl rfl rfl rfl .nil) ?_
  try refine e_fl ?_
  exact e_return rfl rfl (.tmp (kn rfl) (.nil)) (Imp.of_eq (by rw [cdec_yes he]; rfl)) rfl
set_option maxRecDepth 100000 in
theorem eqMsgs_ef (a b : List Msg) (ha : a.length ≤ 100000000000) (hf : ∀ x ∈ a, ∀ y, EF Tryz.prog [] 31 [.many (md x), .many (md y)] (.part (bP (cdec (x = y))))) : EF Tryz.prog [] 30 [.one (.row 9 a.length (a.flatMap Msg.dats)), .one (.row 9 b.length (b.flatMap Msg.dats)), .one (.cell (.func (.func 31) #[] #[]))] (.part (bP (cdec (a = b)))) := by
 refine ef_enter 32 Tryz.func30 rfl rfl rfl fun w D => ?_
 try refine e_fl ?_
 refine e_plain (w_as rfl rfl rfl rfl rfl .nil) ?_
 try refine e_fl ?_
 refine e_plain (w_mv rfl rfl rfl rfl rfl (w_op rfl rfl rfl (s_len rfl (kn rfl) sle_23) (w_mv rfl rfl rfl rfl rfl (w_op rfl rfl rfl (s_len rfl (kn rfl) sle_23) (w_op rfl rfl rfl (s_bin rfl (kn rfl) (kn rfl) v_neq) .nil))))) ?_
 try refine e_fl ?_
 refine e_cond rfl (fun h => ?_) (fun h => ?_)
 ·have hne : ¬ a = b := fun e => by subst e; simp at h
  try refine e_fl ?_
  refine e_plain (w_as rfl rfl rfl rfl rfl .nil) ?_
  try refine e_fl ?_
  exact e_return rfl rfl (.tmp (kn rfl) (.nil)) (Imp.of_eq (by rw [cdec_no hne]; rfl)) rfl
 have hl : a.length = b.length := by
  have : (a.length : Int) = (b.length : Int) := by simpa using h
  omega
 try refine e_fl ?_
 refine e_plain (w_mv rfl rfl rfl rfl rfl (w_op rfl rfl rfl (s_len rfl (kn rfl) sle_23) (w_mv rfl rfl rfl rfl rfl .nil))) ?_
 try refine e_fl ?_
 refine e_loop (ι := { k : Nat // k ≤ a.length ∧ a.take k = b.take k })
  (fun k => [(0, .part (.one (.row 9 a.length (a.flatMap Msg.dats)))), (1, .part (.one (.row 9 b.length (b.flatMap Msg.dats)))), (2, .is (.func (.func 31) #[] #[])), (15, .part (.one (.row 9 a.length (a.flatMap Msg.dats)))), (16, .is (.int .i64 (a.length : Int))), (17, .is (.int .i64 (k.1 : Int)))])
  (fun _ => []) (fun _ => []) (fun k => a.length - k.1) ⟨0, by omega, by simp⟩
  (fun K => e_sub ⟨s_t, s_t, s_t, s_t, s_t, s_t, trivial⟩ trivial trivial) ?_
 rintro ⟨k, hk, hw⟩
 dsimp only at hk hw ⊢
 try refine e_fl ?_
 refine e_plain (w_op rfl rfl rfl (s_bin rfl (kn rfl) (kn rfl) v_lss) .nil) ?_
 try refine e_fl ?_
 refine e_cond rfl (fun h => ?_) (fun h => ?_)
 ·have hlt : k < a.length := by have := of_decide_eq_true h; omega
  obtain ⟨x, hx⟩ : ∃ x, a[k]? = some x := ⟨_, List.getElem?_eq_getElem hlt⟩
  obtain ⟨y, hy⟩ : ∃ y, b[k]? = some y := ⟨_, List.getElem?_eq_getElem (by omega)⟩
  try refine e_fl ?_
  refine e_list ?_
  refine l_mv ?_
  refine l_op (s_index rfl (kn rfl) (kn rfl) (by omega) hx Msg.dats_len sle_23 esz_23 (dats_md x)) ?_
  refine l_op (s_loadn_ref rfl (kn rfl) agg_52 sz_52) ?_
  refine e_alloc 8 [.is (.string ⟨#[]⟩), .is (.slice none 0 0), .is (.slice none 0 0), .is (.slice none 0 0), .is (.slice none 0 0), .is (.slice none 0 0), .is (.slice none 0 0), .is (.int .i64 0), .is (.int .i64 0)] rfl rfl rfl rfl zr_52 (fun w D M V => ⟨rfl, fun j x v h1 h2 => cfit_is _ h1 h2 rfl⟩) rfl rfl rfl rfl ?_
  refine l_as ?_
  refine e_storew rfl rfl rfl (kn rfl) rfl (kn rfl) rfl rfl sz_52 ?_
  refine e_nil ?_
  try refine e_fl ?_
  refine e_list ?_
  refine l_mv ?_
  refine l_mv ?_
  refine l_op (s_index rfl (kn rfl) (kn rfl) (by omega) hy Msg.dats_len sle_23 esz_23 (dats_md y)) ?_
  refine l_op (s_loadn_ref rfl (kn rfl) agg_52 sz_52) ?_
  refine e_alloc 9 [.is (.string ⟨#[]⟩), .is (.slice none 0 0), .is (.slice none 0 0), .is (.slice none 0 0), .is (.slice none 0 0), .is (.slice none 0 0), .is (.slice none 0 0), .is (.int .i64 0), .is (.int .i64 0)] rfl rfl rfl rfl zr_52 (fun w D M V => ⟨rfl, fun j x v h1 h2 => cfit_is _ h1 h2 rfl⟩) rfl rfl rfl rfl ?_
  refine e_storew rfl rfl rfl (kn rfl) rfl (kn rfl) rfl rfl sz_52 ?_
  refine e_nil ?_
  try refine e_fl ?_
  refine e_plain (w_mv rfl rfl rfl rfl rfl (w_op rfl rfl rfl (s_loadn_box (ds := [_, _, _, _, _, _, _, _, _]) 9 rfl (kn rfl) rfl rfl agg_52 sz_52 rfl) (w_op rfl rfl rfl (s_loadn_box (ds := [_, _, _, _, _, _, _, _, _]) 9 rfl (kn rfl) rfl rfl agg_52 sz_52 rfl) (w_op rfl rfl rfl (s_callf rfl (by kernel_rfl) (kn rfl) (hf x (List.mem_of_getElem? hx) y) ⟨kn rfl, kn rfl, trivial⟩) (w_op rfl rfl rfl (s_not rfl (kn rfl)) .nil))))) ?_
  try refine e_fl ?_
  refine e_cond rfl (fun h1 => ?_) (fun h1 => ?_)
  ·have hne : ¬ a = b := fun e => by
    subst e
    rw [hx] at hy
    obtain rfl := Option.some.inj hy
    rw [cdec_yes rfl] at h1
    cases h1
   try refine e_fl ?_
   refine e_plain (w_as rfl rfl rfl rfl rfl .nil) ?_
   try refine e_fl ?_
   exact e_return rfl rfl (.tmp (kn rfl) (.nil)) (Imp.of_eq (by rw [cdec_no hne]; rfl)) rfl
  obtain rfl : x = y := cdec_neg h1
  try refine e_fl ?_
  refine e_plain (w_op rfl rfl rfl (s_bin rfl (kn rfl) (kn rfl) (v_add64 (by first | omega | (dsimp only; omega) | omega))) (w_mv rfl rfl rfl rfl rfl .nil)) ?_
  try refine e_fl ?_
  refine e_again ⟨k + 1, by omega, take_more hw hx hy⟩ (by dsimp only; omega) (fun K => e_sub ⟨s_t, s_t, s_t, s_t, s_t, s_t, trivial⟩ trivial trivial)
 ·have hge : a.length ≤ k := by have := of_decide_eq_false h; omega
  have he := take_all hw hge (by omega)
  try refine e_fl ?_
  refine e_plain (w_as rfl rfl rfl rfl rfl .nil) ?_
  try refine e_fl ?_
  exact e_return rfl rfl (.tmp (kn rfl) (.nil)) (Imp.of_eq (by rw [cdec_yes he]; rfl)) rfl
set_option maxRecDepth 100000 in
set_option maxHeartbeats 2000000 in
theorem sameMessageS_step (a b : Msg) (ha : a.fine) (ih : ∀ k ∈ a.msgs, ∀ k', EF Tryz.prog [] 31 [.many (md k), .many (md k')] (.part (bP (cdec (k = k'))))) : EF Tryz.prog [] 31 [.many (md a), .many (md b)] (.part (bP (cdec (a = b)))) := by
 refine ef_enter 66 Tryz.func31 rfl rfl rfl fun w D => ?_
 try refine e_fl ?_
 obtain ⟨f1, f2, f3, f4, f5, f6, f7, f8⟩ := (Msg.fine_iff a).1 ha
 refine e_list ?_
 refine e_box 2 rfl rfl rfl rfl (kn rfl) rfl rfl rfl rfl ?_
 refine e_box 3 rfl rfl rfl rfl (kn rfl) rfl rfl rfl rfl ?_
 refine l_as ?_
 refine e_nil ?_
 try refine e_fl ?_
 refine e_plain (w_op rfl rfl rfl (s_faddr_box rfl (kn rfl) off_52_0) (w_op rfl rfl rfl (s_load1_box rfl (kn rfl) rfl rfl one_9) (w_op rfl rfl rfl (s_faddr_box rfl (kn rfl) off_52_0) (w_op rfl rfl rfl (s_load1_box rfl (kn rfl) rfl rfl one_9) (w_op rfl rfl rfl (s_bin rfl (kn rfl) (kn rfl) (v_seql)) (w_mv rfl rfl rfl rfl rfl (Walk.gd _ rfl rfl rfl (fun h => s_faddr_box rfl (kn rfl) off_52_7) (Walk.gd _ rfl rfl rfl (fun h => s_load1_box rfl (kn_opt rfl h) rfl rfl one_3) (Walk.gd _ rfl rfl rfl (fun h => s_faddr_box rfl (kn rfl) off_52_7) (Walk.gd _ rfl rfl rfl (fun h => s_load1_box rfl (kn_opt rfl h) rfl rfl one_3) (Walk.gd _ rfl rfl rfl (fun h => s_bin rfl (kn_opt rfl h) (kn_opt rfl h) v_eql) (w_op rfl rfl rfl (s_and rfl (kn rfl) (fun hb => kn_opt rfl hb)) (w_mv rfl rfl rfl rfl rfl (Walk.gd _ rfl rfl rfl (fun h => s_faddr_box rfl (kn rfl) off_52_8) (Walk.gd _ rfl rfl rfl (fun h => s_load1_box rfl (kn_opt rfl h) rfl rfl one_3) (Walk.gd _ rfl rfl rfl (fun h => s_faddr_box rfl (kn rfl) off_52_8) (Walk.gd _ rfl rfl rfl (fun h => s_load1_box rfl (kn_opt rfl h) rfl rfl one_3) (Walk.gd _ rfl rfl rfl (fun h => s_bin rfl (kn_opt rfl h) (kn_opt rfl h) v_eql) (w_op rfl rfl rfl (s_and rfl (kn rfl) (fun hb => kn_opt rfl hb)) (w_mv rfl rfl rfl rfl rfl (Walk.gd _ rfl rfl rfl (fun h => s_faddr_box rfl (kn rfl) off_52_1) (Walk.gd _ rfl rfl rfl (fun h => s_load1_box rfl (kn_opt rfl h) rfl rfl one_48) (Walk.gd _ rfl rfl rfl (fun h => s_faddr_box rfl (kn rfl) off_52_1) (Walk.gd _ rfl rfl rfl (fun h => s_load1_box rfl (kn_opt rfl h) rfl rfl one_48) (Walk.gd _ rfl rfl rfl (fun h => s_call rfl (by kernel_rfl) (eqFld_ef a.fields b.fields f1) ⟨(kn_opt rfl h), ⟨(kn_opt rfl h), trivial⟩⟩) (w_op rfl rfl rfl (s_and rfl (kn rfl) (fun hb => kn_opt rfl hb)) (w_mv rfl rfl rfl rfl rfl (Walk.gd _ rfl rfl rfl (fun h => s_faddr_box rfl (kn rfl) off_52_2) (Walk.gd _ rfl rfl rfl (fun h => s_load1_box rfl (kn_opt rfl h) rfl rfl one_49) (Walk.gd _ rfl rfl rfl (fun h => s_faddr_box rfl (kn rfl) off_52_2) (Walk.gd _ rfl rfl rfl (fun h => s_load1_box rfl (kn_opt rfl h) rfl rfl one_49) (Walk.gd _ rfl rfl rfl (fun h => s_call rfl (by kernel_rfl) (eqTxt_ef a.oneofs b.oneofs f2) ⟨(kn_opt rfl h), ⟨(kn_opt rfl h), trivial⟩⟩) (w_op rfl rfl rfl (s_and rfl (kn rfl) (fun hb => kn_opt rfl hb)) (w_mv rfl rfl rfl rfl rfl (Walk.gd _ rfl rfl rfl (fun h => s_faddr_box rfl (kn rfl) off_52_5) (Walk.gd _ rfl rfl rfl (fun h => s_load1_box rfl (kn_opt rfl h) rfl rfl one_50) (Walk.gd _ rfl rfl rfl (fun h => s_faddr_box rfl (kn rfl) off_52_5) (Walk.gd _ rfl rfl rfl (fun h => s_load1_box rfl (kn_opt rfl h) rfl rfl one_50) (Walk.gd _ rfl rfl rfl (fun h => s_call rfl (by kernel_rfl) (eqRng_ef a.reserved b.reserved f5) ⟨(kn_opt rfl h), ⟨(kn_opt rfl h), trivial⟩⟩) (w_op rfl rfl rfl (s_and rfl (kn rfl) (fun hb => kn_opt rfl hb)) (w_mv rfl rfl rfl rfl rfl (Walk.gd _ rfl rfl rfl (fun h => s_faddr_box rfl (kn rfl) off_52_6) (Walk.gd _ rfl rfl rfl (fun h => s_load1_box rfl (kn_opt rfl h) rfl rfl one_49) (Walk.gd _ rfl rfl rfl (fun h => s_faddr_box rfl (kn rfl) off_52_6) (Walk.gd _ rfl rfl rfl (fun h => s_load1_box rfl (kn_opt rfl h) rfl rfl one_49) (Walk.gd _ rfl rfl rfl (fun h => s_call rfl (by kernel_rfl) (eqTxt_ef a.names b.names f6) ⟨(kn_opt rfl h), ⟨(kn_opt rfl h), trivial⟩⟩) (w_op rfl rfl rfl (s_and rfl (kn rfl) (fun hb => kn_opt rfl hb)) (w_mv rfl rfl rfl rfl rfl (Walk.gd _ rfl rfl rfl (fun h => s_faddr_box rfl (kn rfl) off_52_4) (Walk.gd _ rfl rfl rfl (fun h => s_load1_box rfl (kn_opt rfl h) rfl rfl one_24) (Walk.gd _ rfl rfl rfl (fun h => s_faddr_box rfl (kn rfl) off_52_4) (Walk.gd _ rfl rfl rfl (fun h => s_load1_box rfl (kn_opt rfl h) rfl rfl one_24) (Walk.gd _ rfl rfl rfl (fun h => s_call rfl (by kernel_rfl) (eqEnms_ef a.enums b.enums f4 f7) ⟨(kn_opt rfl h), ⟨(kn_opt rfl h), ⟨(kn rfl), trivial⟩⟩⟩) (w_op rfl rfl rfl (s_and rfl (kn rfl) (fun hb => kn_opt rfl hb)) (w_mv rfl rfl rfl rfl rfl (Walk.gd _ rfl rfl rfl (fun h => s_faddr_box rfl (kn rfl) off_52_3) (Walk.gd _ rfl rfl rfl (fun h => s_load1_box rfl (kn_opt rfl h) rfl rfl one_23) (Walk.gd _ rfl rfl rfl (fun h => s_faddr_box rfl (kn rfl) off_52_3) (Walk.gd _ rfl rfl rfl (fun h => s_load1_box rfl (kn_opt rfl h) rfl rfl one_23) (Walk.gd _ rfl rfl rfl (fun h => s_call rfl (by kernel_rfl) (eqMsgs_ef a.msgs b.msgs f3 ih) ⟨(kn_opt rfl h), ⟨(kn_opt rfl h), ⟨(kn rfl), trivial⟩⟩⟩) (w_op rfl rfl rfl (s_and rfl (kn rfl) (fun hb => kn_opt rfl hb)) (w_as rfl rfl rfl rfl rfl .nil)))))))))))))))))))))))))))))))))))))))))))))))))))))))))))))) ?_
 try refine e_fl ?_
 have e : (decide (a.name = b.name) && decide (a.line = b.line) && decide (a.col = b.col) && cdec (a.fields = b.fields) && cdec (a.oneofs = b.oneofs) && cdec (a.reserved = b.reserved) && cdec (a.names = b.names) && cdec (a.enums = b.enums) && cdec (a.msgs = b.msgs)) = cdec (a = b) := cdec_eq (by
  simp only [Bool.and_eq_true, decide_eq_true_eq, cdec_true]
  constructor
  ·rintro ⟨⟨⟨⟨⟨⟨⟨⟨h1, h2⟩, h3⟩, h4⟩, h5⟩, h6⟩, h7⟩, h8⟩, h9⟩
   cases a
   cases b
   simp only [Msg.name, Msg.fields, Msg.oneofs, Msg.msgs, Msg.enums, Msg.reserved, Msg.names, Msg.line, Msg.col] at h1 h2 h3 h4 h5 h6 h7 h8 h9
   rw [h1, h2, h3, h4, h5, h6, h7, h8, h9]
  ·rintro rfl
   exact ⟨⟨⟨⟨⟨⟨⟨⟨rfl, rfl⟩, rfl⟩, rfl⟩, rfl⟩, rfl⟩, rfl⟩, rfl⟩, rfl⟩)
 exact e_return rfl rfl (.tmp (kn rfl) (.nil)) (Imp.of_eq (by rw [← e]; rfl)) rfl
theorem sameMessageS_ef (a b : Msg) (ha : a.fine) : EF Tryz.prog [] 31 [.many (md a), .many (md b)] (.part (bP (cdec (a = b)))) :=
 sameMessageS_step a b ha fun k hk k' => sameMessageS_ef k k' (((Msg.fine_iff a).1 ha).2.2.2.2.2.2.2 k hk)
termination_by SizeOf.sizeOf a
decreasing_by exact Msg.mem_lt a k hk
set_option maxRecDepth 100000 in
theorem sameS_ef (a b : Fil) (ha : a.fine) : EF Tryz.prog [] 16 [.many a.dats, .many b.dats] (.part (bP (cdec (a = b)))) := by
 refine ef_enter 24 Tryz.func16 rfl rfl rfl fun w D => ?_
 try refine e_fl ?_
 obtain ⟨f1, f2, f3, f4⟩ := ha
 refine e_list ?_
 refine e_box 2 rfl rfl rfl rfl (kn rfl) rfl rfl rfl rfl ?_
 refine e_box 3 rfl rfl rfl rfl (kn rfl) rfl rfl rfl rfl ?_
 refine l_as ?_
 refine e_nil ?_
 try refine e_fl ?_
 refine e_plain (w_op rfl rfl rfl (s_faddr_box rfl (kn rfl) off_26_0) (w_op rfl rfl rfl (s_load1_box rfl (kn rfl) rfl rfl one_9) (w_op rfl rfl rfl (s_faddr_box rfl (kn rfl) off_26_0) (w_op rfl rfl rfl (s_load1_box rfl (kn rfl) rfl rfl one_9) (w_op rfl rfl rfl (s_bin rfl (kn rfl) (kn rfl) (v_seql)) (w_mv rfl rfl rfl rfl rfl (Walk.gd _ rfl rfl rfl (fun h => s_faddr_box rfl (kn rfl) off_26_1) (Walk.gd _ rfl rfl rfl (fun h => s_load1_box rfl (kn_opt rfl h) rfl rfl one_23) (Walk.gd _ rfl rfl rfl (fun h => s_faddr_box rfl (kn rfl) off_26_1) (Walk.gd _ rfl rfl rfl (fun h => s_load1_box rfl (kn_opt rfl h) rfl rfl one_23) (Walk.gd _ rfl rfl rfl (fun h => s_call rfl (by kernel_rfl) (eqMsgs_ef a.msgs b.msgs f1 (fun x hx y => sameMessageS_ef x y (f4 x hx))) ⟨(kn_opt rfl h), ⟨(kn_opt rfl h), ⟨(kn rfl), trivial⟩⟩⟩) (w_op rfl rfl rfl (s_and rfl (kn rfl) (fun hb => kn_opt rfl hb)) (w_mv rfl rfl rfl rfl rfl (Walk.gd _ rfl rfl rfl (fun h => s_faddr_box rfl (kn rfl) off_26_2) (Walk.gd _ rfl rfl rfl (fun h => s_load1_box rfl (kn_opt rfl h) rfl rfl one_24) (Walk.gd _ rfl rfl rfl (fun h => s_faddr_box rfl (kn rfl) off_26_2) (Walk.gd _ rfl rfl rfl (fun h => s_load1_box rfl (kn_opt rfl h) rfl rfl one_24) (Walk.gd _ rfl rfl rfl (fun h => s_call rfl (by kernel_rfl) (eqEnms_ef a.enums b.enums f2 f3) ⟨(kn_opt rfl h), ⟨(kn_opt rfl h), ⟨(kn rfl), trivial⟩⟩⟩) (w_op rfl rfl rfl (s_and rfl (kn rfl) (fun hb => kn_opt rfl hb)) (w_as rfl rfl rfl rfl rfl .nil)))))))))))))))))))) ?_
 try refine e_fl ?_
 have e : (decide (a.package = b.package) && cdec (a.msgs = b.msgs) && cdec (a.enums = b.enums)) = cdec (a = b) := cdec_eq (by
  obtain ⟨a1, a2, a3⟩ := a
  obtain ⟨b1, b2, b3⟩ := b
  simp only [Bool.and_eq_true, decide_eq_true_eq, cdec_true, Fil.mk.injEq]
  exact ⟨fun h => ⟨h.1.1, h.1.2, h.2⟩, fun h => ⟨⟨h.1, h.2.1⟩, h.2.2⟩⟩)
 exact e_return rfl rfl (.tmp (kn rfl) (.nil)) (Imp.of_eq (by rw [← e]; rfl)) rfl
mutual
def nfW : Msg → Int
 | .mk _ f _ m _ _ _ _ _ => nfWs (f.length : Int) m
def nfWs : Int → List Msg → Int
 | z, [] => z
 | z, k :: ks => nfWs (IntKind.i64.wrap (z + nfW k)) ks
end
theorem nfWs_snoc (x : Msg) : ∀ (ms : List Msg) (z : Int), nfWs z (ms ++ [x]) = IntKind.i64.wrap (nfWs z ms + nfW x)
 | [], z => by rw [List.nil_append, nfWs, nfWs, nfWs]
 | k :: ks, z => by rw [List.cons_append, nfWs, nfWs, nfWs_snoc x ks]
theorem nfW_eq (a : Msg) : nfW a = nfWs (a.fields.length : Int) a.msgs := by
 cases a
 rw [nfW]
 rfl
mutual
theorem nfW_flat : ∀ a : Msg, nfW (flatMsg a) = nfW a
 | .mk n f o m e r s l c => by
  rw [flatMsg, nfW, nfW, List.length_map, nfWs_flat m]
theorem nfWs_flat : ∀ (ms : List Msg) (z : Int), nfWs z (flatMsgs ms) = nfWs z ms
 | [], z => by rw [flatMsgs]
 | k :: ks, z => by rw [flatMsgs, nfWs, nfWs, nfW_flat k, nfWs_flat ks]
end
set_option maxRecDepth 100000 in
theorem count_step (a : Msg) (ha : a.msgs.length ≤ 100000000000) (ih : ∀ k ∈ a.msgs, EF Tryz.prog [] 15 [.many (md k)] (.part (iP (nfW k)))) : EF Tryz.prog [] 15 [.many (md a)] (.part (iP (nfW a))) := by
 refine ef_enter 22 Tryz.func15 rfl rfl rfl fun w D => ?_
 try refine e_fl ?_
 refine e_list ?_
 refine e_box 1 rfl rfl rfl rfl (kn rfl) rfl rfl rfl rfl ?_
 refine l_as ?_
 refine e_nil ?_
 try refine e_fl ?_
 refine e_plain (w_op rfl rfl rfl (s_faddr_box rfl (kn rfl) off_52_1) (w_op rfl rfl rfl (s_load1_box rfl (kn rfl) rfl rfl one_48) (w_op rfl rfl rfl (s_len rfl (kn rfl) sle_48) (w_as rfl rfl rfl rfl rfl .nil)))) ?_
 try refine e_fl ?_
 refine e_plain (w_op rfl rfl rfl (s_faddr_box rfl (kn rfl) off_52_3) (w_op rfl rfl rfl (s_load1_box rfl (kn rfl) rfl rfl one_23) (w_op rfl rfl rfl (s_len rfl (kn rfl) sle_23) (w_mv rfl rfl rfl rfl rfl .nil)))) ?_
 try refine e_fl ?_
 refine e_loop (ι := { k : Nat // k ≤ a.msgs.length })
  (fun k => [(1, .box 1 0), (3, .is (.int .i64 (nfWs (a.fields.length : Int) (a.msgs.take k.1)))), (10, .part (.one (.row 9 a.msgs.length (a.msgs.flatMap Msg.dats)))), (11, .is (.int .i64 (a.msgs.length : Int))), (12, .is (.int .i64 (k.1 : Int)))])
  (fun _ => [(1, ⟨52, bcs (md a)⟩)]) (fun _ => []) (fun k => a.msgs.length - k.1) ⟨0, by omega⟩
  (fun K => e_sub ⟨s_t, sub_refl _ (by rw [List.take_zero, nfWs]; rfl), s_t, s_t, s_t, trivial⟩ ⟨s_b, trivial⟩ trivial) ?_
 rintro ⟨k, hk⟩
 dsimp only at hk ⊢
 try refine e_fl ?_
 refine e_plain (w_op rfl rfl rfl (s_bin rfl (kn rfl) (kn rfl) v_lss) .nil) ?_
 try refine e_fl ?_
 refine e_cond rfl (fun h => ?_) (fun h => ?_)
 ·have hlt : k < a.msgs.length := by have := of_decide_eq_true h; omega
  have hl1 : k ≤ 140737488355328 := by omega
  obtain ⟨x, hx⟩ : ∃ x, a.msgs[k]? = some x := ⟨_, List.getElem?_eq_getElem hlt⟩
  have htk : a.msgs.take (k + 1) = a.msgs.take k ++ [x] := by rw [List.take_add_one, hx]; rfl
  try refine e_fl ?_
  refine e_list ?_
  refine l_op (s_index rfl (kn rfl) (kn rfl) (by omega) hx Msg.dats_len sle_23 esz_23 (dats_md x)) ?_
  refine l_op (s_loadn_ref rfl (kn rfl) agg_52 sz_52) ?_
  refine e_alloc 5 [.is (.string ⟨#[]⟩), .is (.slice none 0 0), .is (.slice none 0 0), .is (.slice none 0 0), .is (.slice none 0 0), .is (.slice none 0 0), .is (.slice none 0 0), .is (.int .i64 0), .is (.int .i64 0)] rfl rfl rfl rfl zr_52 (fun w D M V => ⟨rfl, fun j x v h1 h2 => cfit_is _ h1 h2 rfl⟩) rfl rfl rfl rfl ?_
  refine e_storew rfl rfl rfl (kn rfl) rfl (kn rfl) rfl rfl sz_52 ?_
  refine e_nil ?_
  try refine e_fl ?_
  refine e_plain (w_mv rfl rfl rfl rfl rfl (w_op rfl rfl rfl (s_loadn_box (ds := [_, _, _, _, _, _, _, _, _]) 9 rfl (kn rfl) rfl rfl agg_52 sz_52 rfl) (w_op rfl rfl rfl (s_call rfl (by kernel_rfl) (ih x (List.mem_of_getElem? hx)) ⟨(kn rfl), trivial⟩) (w_op rfl rfl rfl (s_bin rfl (kn rfl) (kn rfl) v_add) (w_as rfl rfl rfl rfl rfl .nil))))) ?_
  try refine e_fl ?_
  refine e_plain (w_op rfl rfl rfl (s_bin rfl (kn rfl) (kn rfl) (v_add64 (by first | omega | (dsimp only; omega) | omega))) (w_mv rfl rfl rfl rfl rfl .nil)) ?_
  try refine e_fl ?_
  refine e_again ⟨k + 1, by omega⟩ (by dsimp only; omega) (fun K => e_sub ⟨s_t, sub_refl _ (by rw [htk, nfWs_snoc]; rfl), s_t, s_t, s_t, trivial⟩ ⟨s_b, trivial⟩ trivial)
 obtain rfl : k = a.msgs.length := by have := of_decide_eq_false h; omega
 try refine e_fl ?_
 refine e_plain (w_mv rfl rfl rfl rfl rfl (w_as rfl rfl rfl rfl rfl .nil)) ?_
 try refine e_fl ?_
 exact e_return rfl rfl (.tmp (kn rfl) (.nil)) (Imp.of_eq (by rw [nfW_eq, List.take_length]; rfl)) rfl
theorem count_ef (a : Msg) (ha : a.fine) : EF Tryz.prog [] 15 [.many (md a)] (.part (iP (nfW a))) :=
 count_step a ((Msg.fine_iff a).1 ha).2.2.1 fun k hk => count_ef k (((Msg.fine_iff a).1 ha).2.2.2.2.2.2.2 k hk)
termination_by SizeOf.sizeOf a
decreasing_by exact Msg.mem_lt a k hk
set_option maxRecDepth 100000 in
theorem fields_step (a : Msg) (ha : a.msgs.length ≤ 100000000000) (ih : ∀ k ∈ a.msgs, EF Tryz.prog [] 14 [.many (md k)] (.part (iP (nfW k)))) : EF Tryz.prog [] 14 [.many (md a)] (.part (iP (nfW a))) := by
 refine ef_enter 22 Tryz.func14 rfl rfl rfl fun w D => ?_
 try refine e_fl ?_
 refine e_list ?_
 refine e_box 1 rfl rfl rfl rfl (kn rfl) rfl rfl rfl rfl ?_
 refine l_as ?_
 refine e_nil ?_
 try refine e_fl ?_
 refine e_plain (w_op rfl rfl rfl (s_faddr_box rfl (kn rfl) off_52_1) (w_op rfl rfl rfl (s_load1_box rfl (kn rfl) rfl rfl one_48) (w_op rfl rfl rfl (s_len rfl (kn rfl) sle_48) (w_as rfl rfl rfl rfl rfl .nil)))) ?_
 try refine e_fl ?_
 refine e_plain (w_op rfl rfl rfl (s_faddr_box rfl (kn rfl) off_52_3) (w_op rfl rfl rfl (s_load1_box rfl (kn rfl) rfl rfl one_23) (w_op rfl rfl rfl (s_len rfl (kn rfl) sle_23) (w_mv rfl rfl rfl rfl rfl .nil)))) ?_
 try refine e_fl ?_
 refine e_loop (ι := { k : Nat // k ≤ a.msgs.length })
  (fun k => [(1, .box 1 0), (3, .is (.int .i64 (nfWs (a.fields.length : Int) (a.msgs.take k.1)))), (10, .part (.one (.row 9 a.msgs.length (a.msgs.flatMap Msg.dats)))), (11, .is (.int .i64 (a.msgs.length : Int))), (12, .is (.int .i64 (k.1 : Int)))])
  (fun _ => [(1, ⟨52, bcs (md a)⟩)]) (fun _ => []) (fun k => a.msgs.length - k.1) ⟨0, by omega⟩
  (fun K => e_sub ⟨s_t, sub_refl _ (by rw [List.take_zero, nfWs]; rfl), s_t, s_t, s_t, trivial⟩ ⟨s_b, trivial⟩ trivial) ?_
 rintro ⟨k, hk⟩
 dsimp only at hk ⊢
 try refine e_fl ?_
 refine e_plain (w_op rfl rfl rfl (s_bin rfl (kn rfl) (kn rfl) v_lss) .nil) ?_
 try refine e_fl ?_
 refine e_cond rfl (fun h => ?_) (fun h => ?_)
 ·have hlt : k < a.msgs.length := by have := of_decide_eq_true h; omega
  have hl1 : k ≤ 140737488355328 := by omega
  obtain ⟨x, hx⟩ : ∃ x, a.msgs[k]? = some x := ⟨_, List.getElem?_eq_getElem hlt⟩
  have htk : a.msgs.take (k + 1) = a.msgs.take k ++ [x] := by rw [List.take_add_one, hx]; rfl
  try refine e_fl ?_
  refine e_list ?_
  refine l_op (s_index rfl (kn rfl) (kn rfl) (by omega) hx Msg.dats_len sle_23 esz_23 (dats_md x)) ?_
  refine l_op (s_loadn_ref rfl (kn rfl) agg_52 sz_52) ?_
  refine e_alloc 5 [.is (.string ⟨#[]⟩), .is (.slice none 0 0), .is (.slice none 0 0), .is (.slice none 0 0), .is (.slice none 0 0), .is (.slice none 0 0), .is (.slice none 0 0), .is (.int .i64 0), .is (.int .i64 0)] rfl rfl rfl rfl zr_52 (fun w D M V => ⟨rfl, fun j x v h1 h2 => cfit_is _ h1 h2 rfl⟩) rfl rfl rfl rfl ?_
  refine e_storew rfl rfl rfl (kn rfl) rfl (kn rfl) rfl rfl sz_52 ?_
  refine e_nil ?_
  try refine e_fl ?_
  refine e_plain (w_mv rfl rfl rfl rfl rfl (w_op rfl rfl rfl (s_loadn_box (ds := [_, _, _, _, _, _, _, _, _]) 9 rfl (kn rfl) rfl rfl agg_52 sz_52 rfl) (w_op rfl rfl rfl (s_call rfl (by kernel_rfl) (ih x (List.mem_of_getElem? hx)) ⟨(kn rfl), trivial⟩) (w_op rfl rfl rfl (s_bin rfl (kn rfl) (kn rfl) v_add) (w_as rfl rfl rfl rfl rfl .nil))))) ?_
  try refine e_fl ?_
  refine e_plain (w_op rfl rfl rfl (s_bin rfl (kn rfl) (kn rfl) (v_add64 (by first | omega | (dsimp only; omega) | omega))) (w_mv rfl rfl rfl rfl rfl .nil)) ?_
  try refine e_fl ?_
  refine e_again ⟨k + 1, by omega⟩ (by dsimp only; omega) (fun K => e_sub ⟨s_t, sub_refl _ (by rw [htk, nfWs_snoc]; rfl), s_t, s_t, s_t, trivial⟩ ⟨s_b, trivial⟩ trivial)
 obtain rfl : k = a.msgs.length := by have := of_decide_eq_false h; omega
 try refine e_fl ?_
 refine e_plain (w_mv rfl rfl rfl rfl rfl (w_as rfl rfl rfl rfl rfl .nil)) ?_
 try refine e_fl ?_
 exact e_return rfl rfl (.tmp (kn rfl) (.nil)) (Imp.of_eq (by rw [nfW_eq, List.take_length]; rfl)) rfl
theorem fields_ef (a : Msg) (ha : a.fine) : EF Tryz.prog [] 14 [.many (md a)] (.part (iP (nfW a))) :=
 fields_step a ((Msg.fine_iff a).1 ha).2.2.1 fun k hk => fields_ef k (((Msg.fine_iff a).1 ha).2.2.2.2.2.2.2 k hk)
termination_by SizeOf.sizeOf a
decreasing_by exact Msg.mem_lt a k hk
end Go.Proofs.YtfcjeciepadmeaaGreatDoor
