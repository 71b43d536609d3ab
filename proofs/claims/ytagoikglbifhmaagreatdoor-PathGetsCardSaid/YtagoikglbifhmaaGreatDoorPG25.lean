/- Part 25 of what the last text of this claim is proved by: walks over the program, and the math behind them. Conditions: as each theorem says. -/
import Derived.Test.YtagoikglbifhmaaGreatDoorPG24
import Derived.Test.YtagoikglbifhmaaGreatDoorProg
namespace Go.Proofs.YtagoikglbifhmaaGreatDoor
open Go.RowKit
theorem srt_false_of {s : St} (h : srt s = true → False) : srt s = false := by
  cases e : srt s
  · rfl
  · exact (h e).elim
theorem srt_parts {s : St} (h : srt s = true) : vright s.key = true ∧ snumR s = true ∧ stoR s = true ∧ skeyF s = true := by
  unfold srt at h
  simp only [Bool.and_eq_true] at h
  exact ⟨h.2.2, h.1.1.2, h.1.2, h.2.1⟩
theorem srt_of {s : St} (h1 : 1 ≤ s.kind) (h2 : s.kind ≤ 6) (h3 : vright s.key = true) (h4 : snumR s = true) (h5 : stoR s = true) : srt s = skeyF s := by
  unfold srt
  rw [decide_eq_true h1, decide_eq_true h2, h3, h4, h5]
  simp
set_option maxRecDepth 100000 in
set_option maxHeartbeats 2000000 in
theorem rright_ef (s : St) (hf : s.key.Fine) (ht : s.key.Tx) (hn : vnodes s.key ≤ 1000000) : EF Tryz.prog [] 40 [.many (sd s)] (.part (tP (srt s))) := by
  refine ef_enter 89 Tryz.func40 rfl rfl rfl fun w D => ?_
  try refine e_fl ?_
  refine e_list ?_
  refine e_box 1 rfl rfl rfl rfl (kn rfl) rfl rfl rfl rfl ?_
  refine l_as ?_
  refine e_nil ?_
  try refine e_fl ?_
  refine e_plain (w_op rfl rfl rfl (s_faddr_box rfl (kn rfl) off_76_0) (w_op rfl rfl rfl (s_load1_box rfl (kn rfl) rfl rfl one_3) (w_op rfl rfl rfl (s_bin rfl (kn rfl) (kn rfl) v_lss) (w_mv rfl rfl rfl rfl rfl (Walk.gd _ rfl rfl rfl (fun h => s_faddr_box rfl (kn rfl) off_76_0) (Walk.gd _ rfl rfl rfl (fun h => s_load1_box rfl (kn_opt rfl h) rfl rfl one_3) (Walk.gd _ rfl rfl rfl (fun h => s_bin rfl (kn_opt rfl h) (kn rfl) v_gtr) (w_op rfl rfl rfl (s_or rfl (kn rfl) (fun hb => kn_opt rfl hb)) (w_mv rfl rfl rfl rfl rfl (Walk.gd _ rfl rfl rfl (fun h => s_faddr_box rfl (kn rfl) off_76_1) (Walk.gd _ rfl rfl rfl (fun h => s_load1_box rfl (kn_opt rfl h) rfl rfl one_3) (Walk.gd _ rfl rfl rfl (fun h => s_bin rfl (kn_opt rfl h) (kn rfl) v_lss) (w_op rfl rfl rfl (s_or rfl (kn rfl) (fun hb => kn_opt rfl hb)) (w_mv rfl rfl rfl rfl rfl (Walk.gd _ rfl rfl rfl (fun h => s_faddr_box rfl (kn rfl) off_76_1) (Walk.gd _ rfl rfl rfl (fun h => s_load1_box rfl (kn_opt rfl h) rfl rfl one_3) (Walk.gd _ rfl rfl rfl (fun h => s_bin rfl (kn_opt rfl h) (kn rfl) v_gtr) (w_op rfl rfl rfl (s_or rfl (kn rfl) (fun hb => kn_opt rfl hb)) (w_mv rfl rfl rfl rfl rfl (Walk.gd _ rfl rfl rfl (fun h => s_faddr_box rfl (kn rfl) off_76_3) (Walk.gd _ rfl rfl rfl (fun h => s_loadn_box (ds := [_, _, _, _, _, _, _]) 7 rfl (kn_opt rfl h) rfl rfl agg_40 sz_40 rfl) (Walk.gd _ rfl rfl rfl (fun h => s_call rfl (by kernel_rfl) (right_ef s.key hf ht hn) ⟨(kn_opt rfl h), trivial⟩) (Walk.gd _ rfl rfl rfl (fun h => s_not rfl (kn_opt rfl h)) (w_op rfl rfl rfl (s_or rfl (kn rfl) (fun hb => kn_opt rfl hb)) .nil)))))))))))))))))))))))) ?_
  try refine e_fl ?_
  refine e_cond rfl (fun h => ?_) (fun h => ?_)
  · have e : srt s = false := srt_false_of fun q => by
      have h1 := srt_kind q
      have h2 := srt_num q
      have h3 := (srt_parts q).1
      simp only [Bool.or_eq_true, Bool.not_eq_true', decide_eq_true_eq, h3, Bool.true_eq_false, or_false] at h
      omega
    try refine e_fl ?_
    refine e_plain (w_as rfl rfl rfl rfl rfl .nil) ?_
    try refine e_fl ?_
    exact e_return rfl rfl (.tmp (kn rfl) (.nil)) (tP_eq e.symm) rfl
  have ha : 1 ≤ s.kind ∧ s.kind ≤ 6 ∧ 0 ≤ s.num ∧ s.num ≤ 1073741824 ∧ vright s.key = true := by
    simp only [Bool.or_eq_false_iff, Bool.not_eq_false', decide_eq_false_iff_not] at h
    exact ⟨by omega, by omega, by omega, by omega, h.2⟩
  obtain ⟨a1, a2, a3, a4, a5⟩ := ha
  clear h
  try refine e_fl ?_
  refine e_plain (w_op rfl rfl rfl (s_faddr_box rfl (kn rfl) off_76_0) (w_op rfl rfl rfl (s_load1_box rfl (kn rfl) rfl rfl one_3) (w_op rfl rfl rfl (s_bin rfl (kn rfl) (kn rfl) v_eql) (w_mv rfl rfl rfl rfl rfl (Walk.gd _ rfl rfl rfl (fun h => s_faddr_box rfl (kn rfl) off_76_2) (Walk.gd _ rfl rfl rfl (fun h => s_load1_box rfl (kn_opt rfl h) rfl rfl one_3) (Walk.gd _ rfl rfl rfl (fun h => s_faddr_box rfl (kn rfl) off_76_1) (Walk.gd _ rfl rfl rfl (fun h => s_load1_box rfl (kn_opt rfl h) rfl rfl one_3) (Walk.gd _ rfl rfl rfl (fun h => s_bin rfl (kn_opt rfl h) (kn_opt rfl h) v_lss) (Walk.gd _ rfl rfl rfl (fun h => s_move rfl (kn_opt rfl h)) (Walk.gd _ rfl rfl rfl (fun h => s_faddr_box rfl (kn rfl) off_76_2) (Walk.gd _ rfl rfl rfl (fun h => s_load1_box rfl (kn_opt rfl h) rfl rfl one_3) (Walk.gd _ rfl rfl rfl (fun h => s_bin rfl (kn_opt rfl h) (kn rfl) v_gtr) (Walk.gd _ rfl rfl rfl (fun h => s_or rfl (kn_opt rfl h) (fun hb => kn_opt rfl (gb h hb))) (w_op rfl rfl rfl (s_and rfl (kn rfl) (fun hb => kn_opt rfl hb)) (w_mv rfl rfl rfl rfl rfl (Walk.gd _ rfl rfl rfl (fun h => s_faddr_box rfl (kn rfl) off_76_0) (Walk.gd _ rfl rfl rfl (fun h => s_load1_box rfl (kn_opt rfl h) rfl rfl one_3) (Walk.gd _ rfl rfl rfl (fun h => s_bin rfl (kn_opt rfl h) (kn rfl) v_neq) (Walk.gd _ rfl rfl rfl (fun h => s_move rfl (kn_opt rfl h)) (Walk.gd _ rfl rfl rfl (fun h => s_faddr_box rfl (kn rfl) off_76_2) (Walk.gd _ rfl rfl rfl (fun h => s_load1_box rfl (kn_opt rfl h) rfl rfl one_3) (Walk.gd _ rfl rfl rfl (fun h => s_bin rfl (kn_opt rfl h) (kn rfl) v_neq) (Walk.gd _ rfl rfl rfl (fun h => s_and rfl (kn_opt rfl h) (fun hb => kn_opt rfl (gb h hb))) (w_op rfl rfl rfl (s_or rfl (kn rfl) (fun hb => kn_opt rfl hb)) .nil))))))))))))))))))))))))) ?_
  try refine e_fl ?_
  refine e_cond rfl (fun h => ?_) (fun h => ?_)
  · have e : srt s = false := srt_false_of fun q => by
      have h3 := (srt_parts q).2.2.1
      unfold stoR at h3
      split at h3
      · rename_i k5
        simp only [Bool.and_eq_true, decide_eq_true_eq] at h3
        simp only [Bool.or_eq_true, Bool.and_eq_true, Bool.not_eq_true', decide_eq_true_eq, decide_eq_false_iff_not] at h
        omega
      · rename_i k5
        have h4 := of_decide_eq_true h3
        simp only [Bool.or_eq_true, Bool.and_eq_true, Bool.not_eq_true', decide_eq_true_eq, decide_eq_false_iff_not] at h
        omega
    try refine e_fl ?_
    refine e_plain (w_as rfl rfl rfl rfl rfl .nil) ?_
    try refine e_fl ?_
    exact e_return rfl rfl (.tmp (kn rfl) (.nil)) (tP_eq e.symm) rfl
  have b1 : stoR s = true := by
    simp only [Bool.or_eq_false_iff, Bool.and_eq_false_iff, Bool.not_eq_false', decide_eq_true_eq, decide_eq_false_iff_not] at h
    unfold stoR
    split
    · simp only [Bool.and_eq_true, decide_eq_true_eq]
      omega
    · exact decide_eq_true (by omega)
  clear h
  try refine e_fl ?_
  refine e_plain (w_op rfl rfl rfl (s_faddr_box rfl (kn rfl) off_76_0) (w_op rfl rfl rfl (s_load1_box rfl (kn rfl) rfl rfl one_3) (w_op rfl rfl rfl (s_bin rfl (kn rfl) (kn rfl) v_eql) (w_mv rfl rfl rfl rfl rfl (Walk.gd _ rfl rfl rfl (fun h => s_faddr_box rfl (kn rfl) off_76_0) (Walk.gd _ rfl rfl rfl (fun h => s_load1_box rfl (kn_opt rfl h) rfl rfl one_3) (Walk.gd _ rfl rfl rfl (fun h => s_bin rfl (kn_opt rfl h) (kn rfl) v_eql) (w_op rfl rfl rfl (s_or rfl (kn rfl) (fun hb => kn_opt rfl hb)) (w_mv rfl rfl rfl rfl rfl (Walk.gd _ rfl rfl rfl (fun h => s_faddr_box rfl (kn rfl) off_76_1) (Walk.gd _ rfl rfl rfl (fun h => s_load1_box rfl (kn_opt rfl h) rfl rfl one_3) (Walk.gd _ rfl rfl rfl (fun h => s_bin rfl (kn_opt rfl h) (kn rfl) v_neq) (w_op rfl rfl rfl (s_and rfl (kn rfl) (fun hb => kn_opt rfl hb)) .nil))))))))))))) ?_
  try refine e_fl ?_
  refine e_cond rfl (fun h => ?_) (fun h => ?_)
  · have e : srt s = false := srt_false_of fun q => by
      have h3 := (srt_parts q).2.1
      unfold snumR at h3
      simp only [Bool.or_eq_true, Bool.and_eq_true, Bool.not_eq_true', decide_eq_true_eq, decide_eq_false_iff_not] at h
      split at h3
      · have := of_decide_eq_true h3
        omega
      · omega
    try refine e_fl ?_
    refine e_plain (w_as rfl rfl rfl rfl rfl .nil) ?_
    try refine e_fl ?_
    exact e_return rfl rfl (.tmp (kn rfl) (.nil)) (tP_eq e.symm) rfl
  have c1 : snumR s = true := by
    simp only [Bool.or_eq_false_iff, Bool.and_eq_false_iff, Bool.not_eq_false', decide_eq_true_eq, decide_eq_false_iff_not] at h
    unfold snumR
    split
    · exact decide_eq_true (by omega)
    · simp only [Bool.and_eq_true, decide_eq_true_eq]
      omega
  have e0 := srt_of a1 a2 a5 c1 b1
  clear h
  try refine e_fl ?_
  refine e_plain (w_op rfl rfl rfl (s_faddr_box rfl (kn rfl) off_76_0) (w_op rfl rfl rfl (s_load1_box rfl (kn rfl) rfl rfl one_3) (w_op rfl rfl rfl (s_bin rfl (kn rfl) (kn rfl) v_neq) .nil))) ?_
  try refine e_fl ?_
  refine e_cond rfl (fun h => ?_) (fun h => ?_)
  · have e : srt s = decide (s.key.kind = 0) := by rw [e0]; exact if_neg (by simpa using h)
    try refine e_fl ?_
    refine e_plain (w_op rfl rfl rfl (s_faddr_box rfl (kn rfl) off_76_3) (w_op rfl rfl rfl (s_faddr_box rfl (kn rfl) off_40_0) (w_op rfl rfl rfl (s_load1_box rfl (kn rfl) rfl rfl one_3) (w_op rfl rfl rfl (s_bin rfl (kn rfl) (kn rfl) v_eql) (w_as rfl rfl rfl rfl rfl .nil))))) ?_
    try refine e_fl ?_
    exact e_return rfl rfl (.tmp (kn rfl) (.nil)) (tP_eq e.symm) rfl
  · have e : srt s = (decide (s.key.kind = 1) || (decide (s.key.kind = 2) && decide (s.key.text.length ≤ 4096))) := by rw [e0]; exact if_pos (by simpa using h)
    have e2 : decide (s.key.text.length ≤ 4096) = decide ((s.key.text.length : Int) ≤ 4096) := decide_eq_decide.2 (by omega)
    try refine e_fl ?_
    refine e_plain (w_op rfl rfl rfl (s_faddr_box rfl (kn rfl) off_76_3) (w_op rfl rfl rfl (s_faddr_box rfl (kn rfl) off_40_0) (w_op rfl rfl rfl (s_load1_box rfl (kn rfl) rfl rfl one_3) (w_op rfl rfl rfl (s_bin rfl (kn rfl) (kn rfl) v_eql) (w_mv rfl rfl rfl rfl rfl (Walk.gd _ rfl rfl rfl (fun h => s_faddr_box rfl (kn rfl) off_76_3) (Walk.gd _ rfl rfl rfl (fun h => s_faddr_box rfl (kn_opt rfl h) off_40_0) (Walk.gd _ rfl rfl rfl (fun h => s_load1_box rfl (kn_opt rfl h) rfl rfl one_3) (Walk.gd _ rfl rfl rfl (fun h => s_bin rfl (kn_opt rfl h) (kn rfl) v_eql) (Walk.gd _ rfl rfl rfl (fun h => s_move rfl (kn_opt rfl h)) (Walk.gd _ rfl rfl rfl (fun h => s_faddr_box rfl (kn rfl) off_76_3) (Walk.gd _ rfl rfl rfl (fun h => s_faddr_box rfl (kn_opt rfl h) off_40_2) (Walk.gd _ rfl rfl rfl (fun h => s_load1_box rfl (kn_opt rfl h) rfl rfl one_9) (Walk.gd _ rfl rfl rfl (fun h => s_slen rfl (kn_opt rfl h) str_9) (Walk.gd _ rfl rfl rfl (fun h => s_bin rfl (kn_opt rfl h) (kn rfl) v_leq) (Walk.gd _ rfl rfl rfl (fun h => s_and rfl (kn_opt rfl h) (fun hb => kn_opt rfl (gb h hb))) (w_op rfl rfl rfl (s_or rfl (kn rfl) (fun hb => kn_opt rfl hb)) (w_as rfl rfl rfl rfl rfl .nil)))))))))))))))))) ?_
    try refine e_fl ?_
    exact e_return rfl rfl (.tmp (kn rfl) (.nil)) (tP_eq (by rw [e, e2])) rfl
def KeysGood (p : List St) : Prop := ∀ s ∈ p, s.key.Fine ∧ s.key.Tx ∧ vnodes s.key ≤ 1000000
theorem all_end' {α : Type} {p : α → Bool} {l : List α} {k : Nat} (hk : l.length ≤ k) (h : l.all p = (l.drop k).all p) : l.all p = true := by
  rw [h, List.drop_eq_nil_of_le hk]
  rfl
theorem all_step' {α : Type} {p : α → Bool} {l : List α} {k : Nat} {x : α} (hx : l[k]? = some x) (h : l.all p = (l.drop k).all p) : l.all p = (p x && (l.drop (k + 1)).all p) := by
  rw [h, drop_cons hx, List.all_cons]
set_option maxRecDepth 100000 in
theorem rRight_ef (p : List St) (hbig : p.length ≤ 1000000) (hp : KeysGood p) : EF Tryz.prog [] 16 [stD p] (.part (tP (p.all srt))) := by
  refine ef_enter 15 Tryz.func16 rfl rfl rfl fun w D => ?_
  try refine e_fl ?_
  refine e_plain (w_as rfl rfl rfl rfl rfl .nil) ?_
  try refine e_fl ?_
  refine e_plain (w_mv rfl rfl rfl rfl rfl (w_op rfl rfl rfl (s_len rfl (kn rfl) sle_44) (w_mv rfl rfl rfl rfl rfl .nil))) ?_
  try refine e_fl ?_
  refine e_loop (ι := { k : Nat // k ≤ p.length ∧ p.all srt = (p.drop k).all srt })
    (fun k => [(5, .part (stD p)), (6, .is (.int .i64 (p.length : Int))), (7, .is (.int .i64 (k.1 : Int)))])
    (fun _ => []) (fun _ => []) (fun k => p.length - k.1) ⟨0, by omega, rfl⟩
    (fun K => e_sub ⟨s_t, s_t, s_t, trivial⟩ trivial trivial) ?_
  rintro ⟨k, hk, hw⟩
  dsimp only at hk hw ⊢
  try refine e_fl ?_
  refine e_plain (w_op rfl rfl rfl (s_bin rfl (kn rfl) (kn rfl) v_lss) .nil) ?_
  try refine e_fl ?_
  refine e_cond rfl (fun h => ?_) (fun h => ?_)
  · have hlt : k < p.length := by have := of_decide_eq_true h; omega
    obtain ⟨x, hx⟩ : ∃ x, p[k]? = some x := ⟨_, List.getElem?_eq_getElem hlt⟩
    obtain ⟨g1, g2, g3⟩ := hp x (List.mem_of_getElem? hx)
    have hst := all_step' hx hw
    try refine e_fl ?_
    refine e_list ?_
    refine l_op (s_index rfl (kn rfl) (kn rfl) (by omega) hx stDats_len sle_44 esz_44 (stDats_sd x)) ?_
    refine l_op (s_loadn_ref rfl (kn rfl) agg_76 sz_76) ?_
    refine e_alloc 4 [.is (.int .i64 0), .is (.int .i64 0), .is (.int .i64 0), .is (.int .i64 0), .is (.int .u64 0), .is (.string ⟨#[]⟩), .is (.slice none 0 0), .is (.string ⟨#[]⟩), .is (.slice none 0 0), .is (.slice none 0 0)] rfl rfl rfl rfl zr_76 (fun w D M V => ⟨rfl, fun j x v h1 h2 => cfit_is _ h1 h2 rfl⟩) rfl rfl rfl rfl ?_
    refine e_storew rfl rfl rfl (kn rfl) rfl (kn rfl) rfl rfl sz_76 ?_
    refine e_nil ?_
    try refine e_fl ?_
    refine e_plain (w_op rfl rfl rfl (s_loadn_box (ds := [_, _, _, _, _, _, _, _, _, _]) 10 rfl (kn rfl) rfl rfl agg_76 sz_76 rfl) (w_op rfl rfl rfl (s_call rfl (by kernel_rfl) (rright_ef x g1 g2 g3) ⟨(kn rfl), trivial⟩) (w_op rfl rfl rfl (s_not rfl (kn rfl)) .nil))) ?_
    try refine e_fl ?_
    refine e_cond rfl (fun h1 => ?_) (fun h1 => ?_)
    · try refine e_fl ?_
      refine e_plain (w_as rfl rfl rfl rfl rfl .nil) ?_
      try refine e_fl ?_
      exact e_return rfl rfl (.tmp (kn rfl) (.nil)) (tP_eq (by rw [hst, show srt x = false by simpa using h1]; rfl)) rfl
    try refine e_fl ?_
    refine e_plain (w_op rfl rfl rfl (s_bin rfl (kn rfl) (kn rfl) (v_add64 (by first | omega | (dsimp only; omega) | omega))) (w_mv rfl rfl rfl rfl rfl .nil)) ?_
    try refine e_fl ?_
    refine e_again ⟨k + 1, by omega, ?_⟩ (by dsimp only; omega) (fun K => e_sub ⟨s_t, s_t, s_t, trivial⟩ trivial trivial)
    rw [hst, show srt x = true by simpa using h1]
    rfl
  try refine e_fl ?_
  refine e_plain (w_as rfl rfl rfl rfl rfl .nil) ?_
  try refine e_fl ?_
  exact e_return rfl rfl (.tmp (kn rfl) (.nil)) (tP_eq (all_end' (by have := of_decide_eq_false h; omega) hw).symm) rfl
set_option maxRecDepth 100000 in
set_option maxHeartbeats 1000000 in
theorem pof_ef (p : List St) (hl : p.length ≤ 1000000) (hp : ∀ s ∈ p, vnodes s.key ≤ 1000000) : EF Tryz.prog [] 13 [stD p] (.part (stD p)) := by
  refine ef_enter 28 Tryz.func13 rfl rfl rfl fun w D => ?_
  try refine e_fl ?_
  refine e_plain (w_as rfl rfl rfl rfl rfl .nil) ?_
  try refine e_fl ?_
  refine e_list ?_
  refine e_made 100 rfl rfl rfl rfl sl_44 ap_44 rfl rfl ?_
  refine l_as ?_
  refine e_nil ?_
  try refine e_fl ?_
  refine e_plain (w_mv rfl rfl rfl rfl rfl (w_op rfl rfl rfl (s_len rfl (kn rfl) sle_29) (w_mv rfl rfl rfl rfl rfl .nil))) ?_
  try refine e_fl ?_
  refine e_loop (ι := { k : Nat // k ≤ p.length })
    (fun k => [(3, .own 100), (7, .part (stD p)), (8, .is (.int .i64 (p.length : Int))), (9, .is (.int .i64 (k.1 : Int)))])
    (fun _ => []) (fun k => [(100, ⟨76, 10, k.1, (p.take k.1).flatMap stDats, false⟩)]) (fun k => p.length - k.1) ⟨0, by omega⟩
    (fun K => e_sub ⟨s_t, s_t, s_t, s_t, trivial⟩ trivial ⟨rfl, trivial⟩) ?_
  rintro ⟨k, hk⟩
  dsimp only at hk ⊢
  try refine e_fl ?_
  refine e_plain (w_op rfl rfl rfl (s_bin rfl (kn rfl) (kn rfl) v_lss) .nil) ?_
  try refine e_fl ?_
  refine e_cond rfl (fun h => ?_) (fun h => ?_)
  · have hlt : k < p.length := by have := of_decide_eq_true h; omega
    obtain ⟨x, hx⟩ : ∃ x, p[k]? = some x := ⟨_, List.getElem?_eq_getElem hlt⟩
    have ho := of_ef x.key (hp x (List.mem_of_getElem? hx))
    try refine e_fl ?_
    refine e_list ?_
    refine l_op (s_index rfl (kn rfl) (kn rfl) (by omega) hx stDats_len sle_29 esz_29 (stDats_sd x)) ?_
    refine l_op (s_loadn_ref rfl (kn rfl) agg_62 sz_62) ?_
    refine e_alloc 5 [.is (.int .i64 0), .is (.int .i64 0), .is (.int .i64 0), .is (.int .i64 0), .is (.int .u64 0), .is (.string ⟨#[]⟩), .is (.slice none 0 0), .is (.string ⟨#[]⟩), .is (.slice none 0 0), .is (.slice none 0 0)] rfl rfl rfl rfl zr_62 (fun w D M V => ⟨rfl, fun j x v h1 h2 => cfit_is _ h1 h2 rfl⟩) rfl rfl rfl rfl ?_
    refine e_storew rfl rfl rfl (kn rfl) rfl (kn rfl) rfl rfl sz_62 ?_
    refine e_nil ?_
    try refine e_fl ?_
    refine e_draw_tail 12 mixed (by kernel_rfl) (w_mv rfl rfl rfl rfl rfl (w_op rfl rfl rfl (s_faddr_box rfl (kn rfl) off_62_0) (w_op rfl rfl rfl (s_load1_box rfl (kn rfl) rfl rfl one_3) (w_op rfl rfl rfl (s_faddr_box rfl (kn rfl) off_62_1) (w_op rfl rfl rfl (s_load1_box rfl (kn rfl) rfl rfl one_3) (w_op rfl rfl rfl (s_faddr_box rfl (kn rfl) off_62_2) (w_op rfl rfl rfl (s_load1_box rfl (kn rfl) rfl rfl one_3) (w_op rfl rfl rfl (s_faddr_box rfl (kn rfl) off_62_3) (w_op rfl rfl rfl (s_loadn_box (ds := [_, _, _, _, _, _, _]) 7 rfl (kn rfl) rfl rfl agg_27 sz_27 rfl) (w_op rfl rfl rfl (s_call rfl (by kernel_rfl) (ho) ⟨(kn rfl), trivial⟩) (w_op rfl rfl rfl (s_build (ds := [_, _, _, _, _, _, _, _, _, _]) [(0, _), (1, _), (2, _), (3, _)] rfl ⟨rfl, (kn rfl), ⟨rfl, (kn rfl), ⟨rfl, (kn rfl), ⟨rfl, (kn rfl), trivial⟩⟩⟩⟩ rfl pl_76 zr_76 (fun w D => .cons (.cell _) (.cons (.cell _) (.cons (.cell _) (.cons (.cell _) (.cons (.cell _) (.cons (.cell _) (.cons (.cell _) (.cons (.cell _) (.cons (.cell _) (.cons (.cell _) (.nil _ _))))))))))) rfl) (w_op rfl rfl rfl (s_buildSlice (ds := [_, _, _, _, _, _, _, _, _, _]) [(0, _)] rfl ⟨rfl, (kn rfl), trivial⟩ rfl sl_44 sz_76 zr_76 (fun w D => .cons (.cell _) (.cons (.cell _) (.cons (.cell _) (.cons (.cell _) (.cons (.cell _) (.cons (.cell _) (.cons (.cell _) (.cons (.cell _) (.cons (.cell _) (.cons (.cell _) (.nil _ _))))))))))) rfl rfl rfl rfl rfl) .nil)))))))))))) ?_
    refine e_append rfl rfl rfl rfl (kn rfl) rfl (kn rfl) sl_44 ap_44 rfl rfl (by first | omega | (dsimp only; omega) | omega) (by first | omega | (dsimp only; omega) | omega) ?_
    refine l_as ?_
    refine e_nil ?_
    try refine e_fl ?_
    refine e_plain (w_op rfl rfl rfl (s_bin rfl (kn rfl) (kn rfl) (v_add64 (by first | omega | (dsimp only; omega) | omega))) (w_mv rfl rfl rfl rfl rfl .nil)) ?_
    try refine e_fl ?_
    refine e_again ⟨k + 1, by omega⟩ (by dsimp only; omega) (fun K => e_sub ⟨s_t, s_t, s_t, s_t, trivial⟩ trivial ⟨rowEq rfl rfl (by rw [take_one hx, flats_one]; rfl), trivial⟩)
  obtain rfl : k = p.length := by have := of_decide_eq_false h; omega
  try refine e_fl ?_
  refine e_plain (w_mv rfl rfl rfl rfl rfl (w_as rfl rfl rfl rfl rfl .nil)) ?_
  try refine e_fl ?_
  refine e_freeze_slot 2 100 rfl rfl rfl ?_
  exact e_return rfl rfl (.tmp (kn rfl) (.nil)) (Imp.of_eq (by rw [List.take_length]; rfl)) rfl
def rget : Vl → List St → Vl × Bool
  | v, [] => (v, !decide (v.kind = 0))
  | v, s :: p => if (sget s v).2 then (match p with | [] => ((sget s v).1, true) | _ => if (sget s v).1.kind = 0 then (vnone, false) else rget (sget s v).1 p) else (vnone, false)
theorem sget_none (s : St) : sget s vnone = (vnone, false) := by
  have h1 : vget vnone s.num = vnone := if_neg (by decide)
  have h2 : vfind vnone s.key = vnone := if_neg (by decide)
  have h3 : sidx s vnone = (vnone, false) := if_neg (fun h => absurd (show (0 : Int) = 4 from h.1) (by decide))
  have h4 : srest vnone = (vnone, false) := if_neg (by decide)
  have h5 : sspan s vnone = (vnone, false) := if_neg (fun h => absurd (show (0 : Int) = 4 from h.1) (by decide))
  unfold sget
  rw [h1, h2, h3, h4, h5]
  repeat' split
  all_goals rfl
theorem rget_none : ∀ p : List St, p ≠ [] → rget vnone p = (vnone, false)
  | [], h => absurd rfl h
  | s :: p, _ => by
    unfold rget
    rw [sget_none]
    rfl
theorem pgo_rget : ∀ (p : List St) (v : Vl) (b : Bool), Gd v → pgo (v, b) p = match p with | [] => (v, b) | _ => rget v p
  | [], _, _, _ => rfl
  | s :: p, v, b, hv => by
    obtain ⟨h1, h2⟩ := sget_gd s hv
    show pgo (sget s v) p = rget v (s :: p)
    unfold rget
    rw [show sget s v = ((sget s v).1, (sget s v).2) from rfl, pgo_rget p _ _ h1]
    cases hb : (sget s v).2
    · rw [h2 hb]
      cases p with
      | nil => rfl
      | cons t p => exact rget_none _ (by simp)
    · cases p with
      | nil => rfl
      | cons t p =>
        show rget (sget s v).1 (t :: p) = if (sget s v).1.kind = 0 then (vnone, false) else rget (sget s v).1 (t :: p)
        split
        · rename_i hk
          rw [plain_none h1.r hk]
          exact rget_none _ (by simp)
        · rfl
theorem pget_rget (v : Vl) (p : List St) (hv : Gd v) : pget v p = rget v p := by
  unfold pget
  rw [pgo_rget p v _ hv]
  cases p with
  | nil => rfl
  | cons s p => rfl
theorem pget_gd : ∀ (p : List St) (r : Vl × Bool), Gd r.1 → Gd (pgo r p).1
  | [], _, h => h
  | s :: p, r, h => pget_gd p (sget s r.1) (sget_gd s h).1
theorem rget_bad {s : St} {v x : Vl} {b : Bool} (p : List St) (hx : sget s v = (x, b)) (hb : b = false) : rget v (s :: p) = (vnone, false) := by
  subst hb
  unfold rget
  rw [hx]
  rfl
theorem rget_one {s : St} {v x : Vl} {b : Bool} {p : List St} (hx : sget s v = (x, b)) (hb : b = true) (hp : p = []) : rget v (s :: p) = (x, true) := by
  subst hb hp
  unfold rget
  rw [hx]
  rfl
theorem rget_more {s : St} {v x : Vl} {b : Bool} {p : List St} (hx : sget s v = (x, b)) (hb : b = true) (hp : p ≠ []) : rget v (s :: p) = if x.kind = 0 then (vnone, false) else rget x p := by
  subst hb
  cases p with
  | nil => exact absurd rfl hp
  | cons t p =>
    conv => lhs; unfold rget
    rw [hx]
    rfl
theorem rget_zero {s : St} {v x : Vl} {b : Bool} {p : List St} (hx : sget s v = (x, b)) (hb : b = true) (hp : p ≠ []) (h : x.kind = 0) : rget v (s :: p) = (vnone, false) := by rw [rget_more hx hb hp, if_pos h]
theorem rget_on {s : St} {v x : Vl} {b : Bool} {p : List St} (hx : sget s v = (x, b)) (hb : b = true) (hp : p ≠ []) (h : ¬ x.kind = 0) : rget v (s :: p) = rget x p := by rw [rget_more hx hb hp, if_neg h]
theorem gd_of {s : St} {v x : Vl} {b : Bool} (hv : Gd v) (hx : sget s v = (x, b)) : Gd x := by have := (sget_gd s hv).1; rw [hx] at this; exact this
theorem len_one {s : St} {p : List St} (h : decide (((s :: p).length : Int) = 1) = true) : p = [] := by
  have := of_decide_eq_true h
  rw [List.length_cons] at this
  exact List.length_eq_zero_iff.1 (by omega)
theorem len_not {s : St} {p : List St} (h : decide (((s :: p).length : Int) = 1) = false) : p ≠ [] := fun q => by
  have := of_decide_eq_false h
  rw [q] at this
  exact this rfl
set_option maxRecDepth 100000 in
set_option maxHeartbeats 4000000 in
theorem rget_cons (s : St) (hsf : s.key.Fine) (p : List St) (ih : ∀ v, Gd v → EF Tryz.prog [] 11 [.many (vd v), stD p] (gR (rget v p).1 (rget v p).2)) (v : Vl) (hv : Gd v) : EF Tryz.prog [] 11 [.many (vd v), stD (s :: p)] (gR (rget v (s :: p)).1 (rget v (s :: p)).2) := by
  refine ef_enter 127 Tryz.func11 rfl rfl rfl fun w D => ?_
  try refine e_fl ?_
  refine e_list ?_
  refine e_box 2 rfl rfl rfl rfl (kn rfl) rfl rfl rfl rfl ?_
  refine e_alloc 4 [.is (.int .i64 0), .is (.int .u64 0), .is (.string ⟨#[]⟩), .is (.slice none 0 0), .is (.string ⟨#[]⟩), .is (.slice none 0 0), .is (.slice none 0 0)] rfl rfl rfl rfl zr_40 (fun w D M V => ⟨rfl, fun j x v h1 h2 => cfit_is _ h1 h2 rfl⟩) rfl rfl rfl rfl ?_
  refine l_as ?_
  refine e_nil ?_
  try refine e_fl ?_
  refine e_plain (w_mv rfl rfl rfl rfl rfl (w_op rfl rfl rfl (s_len rfl (kn rfl) sle_44) (w_op rfl rfl rfl (s_bin rfl (kn rfl) (kn rfl) v_eql) .nil))) ?_
  try refine e_fl ?_
  refine e_cond rfl (fun h => ?_) (fun h => ?_)
  · exfalso
    have := of_decide_eq_true h
    rw [List.length_cons] at this
    omega
  clear h
  try refine e_fl ?_
  refine e_list ?_
  refine l_mv ?_
  refine l_op (s_index rfl (kn rfl) (kn rfl) (by omega) (rfl : (s :: p)[(0 : Int).toNat]? = some s) stDats_len sle_44 esz_44 (stDats_sd s)) ?_
  refine l_op (s_loadn_ref rfl (kn rfl) agg_76 sz_76) ?_
  refine e_alloc 6 [.is (.int .i64 0), .is (.int .i64 0), .is (.int .i64 0), .is (.int .i64 0), .is (.int .u64 0), .is (.string ⟨#[]⟩), .is (.slice none 0 0), .is (.string ⟨#[]⟩), .is (.slice none 0 0), .is (.slice none 0 0)] rfl rfl rfl rfl zr_76 (fun w D M V => ⟨rfl, fun j x v h1 h2 => cfit_is _ h1 h2 rfl⟩) rfl rfl rfl rfl ?_
  refine e_storew rfl rfl rfl (kn rfl) rfl (kn rfl) rfl rfl sz_76 ?_
  refine e_nil ?_
  try refine e_fl ?_
  refine e_list ?_
  refine l_op (s_build (ds := [_, _, _, .row 8 0 [], _, .row 7 0 [], .row 14 0 []]) [] rfl trivial rfl pl_40 zr_40 (fun w D => .cons (.cell _) (.cons (.cell _) (.cons (.cell _) (.cons (.none _ _ _) (.cons (.cell _) (.cons (.none _ _ _) (.cons (.none _ _ _) (.nil _ _)))))))) rfl) ?_
  refine e_alloc 7 [.is (.int .i64 0), .is (.int .u64 0), .is (.string ⟨#[]⟩), .is (.slice none 0 0), .is (.string ⟨#[]⟩), .is (.slice none 0 0), .is (.slice none 0 0)] rfl rfl rfl rfl zr_40 (fun w D M V => ⟨rfl, fun j x v h1 h2 => cfit_is _ h1 h2 rfl⟩) rfl rfl rfl rfl ?_
  refine e_storew rfl rfl rfl (kn rfl) rfl (kn rfl) rfl rfl sz_40 ?_
  refine l_as ?_
  refine e_nil ?_
  try refine e_fl ?_
  refine e_plain (w_op rfl rfl rfl (s_faddr_box rfl (kn rfl) off_76_0) (w_op rfl rfl rfl (s_load1_box rfl (kn rfl) rfl rfl one_3) .nil)) ?_
  try refine e_fl ?_
  try refine e_fl ?_
  refine e_plain (w_op rfl rfl rfl (s_bin rfl (kn rfl) (kn rfl) v_eql) (w_as rfl rfl rfl rfl rfl .nil)) ?_
  try refine e_fl ?_
  refine e_cond rfl (fun q1 => ?_) (fun q1 => ?_)
  · have hx : sget s v = (vget v s.num, !decide ((vget v s.num).kind = 0)) := if_pos (of_decide_eq_true q1)
    try refine e_fl ?_
    refine e_list ?_
    refine l_op (s_loadn_box (ds := [_, _, _, _, _, _, _]) 7 rfl (kn rfl) rfl rfl agg_40 sz_40 rfl) ?_
    refine l_op (s_faddr_box rfl (kn rfl) off_76_1) ?_
    refine l_op (s_load1_box rfl (kn rfl) rfl rfl one_3) ?_
    refine l_op (s_call rfl (by kernel_rfl) (get_ef v s.num hv.f) ⟨(kn rfl), ⟨(kn rfl), trivial⟩⟩) ?_
    refine e_storew rfl rfl rfl (kn rfl) rfl (kn rfl) rfl rfl sz_40 ?_
    refine e_nil ?_
    try refine e_fl ?_
    refine e_plain (w_op rfl rfl rfl (s_faddr_box rfl (kn rfl) off_40_0) (w_op rfl rfl rfl (s_load1_box rfl (kn rfl) rfl rfl one_3) (w_op rfl rfl rfl (s_bin rfl (kn rfl) (kn rfl) v_neq) (w_as rfl rfl rfl rfl rfl .nil)))) ?_
    try refine e_fl ?_
    try refine e_fl ?_
    refine e_plain (w_mv rfl rfl rfl rfl rfl (w_op rfl rfl rfl (s_not rfl (kn rfl)) .nil)) ?_
    try refine e_fl ?_
    refine e_cond rfl (fun g => ?_) (fun g => ?_)
    · have e := rget_bad p hx (not_t g)
      try refine e_fl ?_
      refine e_list ?_
      refine l_op (s_build (ds := [_, _, _, .row 8 0 [], _, .row 7 0 [], .row 14 0 []]) [] rfl trivial rfl pl_40 zr_40 (fun w D => .cons (.cell _) (.cons (.cell _) (.cons (.cell _) (.cons (.none _ _ _) (.cons (.cell _) (.cons (.none _ _ _) (.cons (.none _ _ _) (.nil _ _)))))))) rfl) ?_
      refine e_storew rfl rfl rfl (kn rfl) rfl (kn rfl) rfl rfl sz_40 ?_
      refine l_as ?_
      refine e_nil ?_
      try refine e_fl ?_
      exact e_return rfl rfl (.cell rfl rfl rfl agg_40 sz_40 rfl (.tmp (kn rfl) (.nil))) (Imp.of_eq (by rw [e]; rfl)) rfl
    have g' := not_f g
    clear g
    try refine e_fl ?_
    refine e_plain (w_mv rfl rfl rfl rfl rfl (w_op rfl rfl rfl (s_len rfl (kn rfl) sle_44) (w_op rfl rfl rfl (s_bin rfl (kn rfl) (kn rfl) v_eql) .nil))) ?_
    try refine e_fl ?_
    refine e_cond rfl (fun g2 => ?_) (fun g2 => ?_)
    · have e := rget_one hx g' (len_one g2)
      try refine e_fl ?_
      refine e_list ?_
      refine l_op (s_loadn_box (ds := [_, _, _, _, _, _, _]) 7 rfl (kn rfl) rfl rfl agg_40 sz_40 rfl) ?_
      refine e_storew rfl rfl rfl (kn rfl) rfl (kn rfl) rfl rfl sz_40 ?_
      refine l_as ?_
      refine e_nil ?_
      try refine e_fl ?_
      exact e_return rfl rfl (.cell rfl rfl rfl agg_40 sz_40 rfl (.tmp (kn rfl) (.nil))) (Imp.of_eq (by rw [e]; rfl)) rfl
    have hp0 := len_not g2
    clear g2
    try refine e_fl ?_
    refine e_plain (w_op rfl rfl rfl (s_faddr_box rfl (kn rfl) off_40_0) (w_op rfl rfl rfl (s_load1_box rfl (kn rfl) rfl rfl one_3) (w_op rfl rfl rfl (s_bin rfl (kn rfl) (kn rfl) v_eql) .nil))) ?_
    try refine e_fl ?_
    refine e_cond rfl (fun g3 => ?_) (fun g3 => ?_)
    · have e := rget_zero hx g' hp0 (of_decide_eq_true g3)
      try refine e_fl ?_
      refine e_list ?_
      refine l_op (s_build (ds := [_, _, _, .row 8 0 [], _, .row 7 0 [], .row 14 0 []]) [] rfl trivial rfl pl_40 zr_40 (fun w D => .cons (.cell _) (.cons (.cell _) (.cons (.cell _) (.cons (.none _ _ _) (.cons (.cell _) (.cons (.none _ _ _) (.cons (.none _ _ _) (.nil _ _)))))))) rfl) ?_
      refine e_storew rfl rfl rfl (kn rfl) rfl (kn rfl) rfl rfl sz_40 ?_
      refine l_as ?_
      refine e_nil ?_
      try refine e_fl ?_
      exact e_return rfl rfl (.cell rfl rfl rfl agg_40 sz_40 rfl (.tmp (kn rfl) (.nil))) (Imp.of_eq (by rw [e]; rfl)) rfl
    have e := rget_on hx g' hp0 (of_decide_eq_false g3)
    have hih := ih (vget v s.num) (gd_of hv hx)
    clear g3
    try refine e_fl ?_
    refine e_draw_mix [(4, _)] mixed (by kernel_rfl) (WalkM.op rfl rfl rfl (s_loadn_box (ds := [_, _, _, _, _, _, _]) 7 rfl (kn rfl) rfl rfl agg_40 sz_40 rfl) (WalkM.op rfl rfl rfl (s_move rfl (kn rfl)) (WalkM.op rfl rfl rfl (s_rslice_from (qs := s :: p) (z := 1) rfl (kn rfl) (kn rfl) ⟨by decide, by rw [List.length_cons]; omega⟩ stDats_len sle_44 esz_44) (WalkM.op rfl rfl rfl (s_call rfl (by kernel_rfl) (hih) ⟨(kn rfl), ⟨(kn rfl), trivial⟩⟩) (WalkM.op rfl rfl rfl (s_extract rfl (kn rfl) rfl) (WalkM.op rfl rfl rfl (s_extract rfl (kn rfl) rfl) (WalkM.stw rfl rfl rfl (kn rfl) rfl rfl (kn rfl) rfl rfl rfl sz_40 (WalkM.op rfl rfl rfl (s_assign rfl (kn rfl)) (WalkM.nil))))))))) rfl ?_
    try refine e_fl ?_
    exact e_return rfl rfl (.cell rfl rfl rfl agg_40 sz_40 rfl (.tmp (kn rfl) (.nil))) (Imp.of_eq (by rw [e]; rfl)) rfl
  have n1 := of_decide_eq_false q1
  try refine e_fl ?_
  refine e_plain (w_op rfl rfl rfl (s_bin rfl (kn rfl) (kn rfl) v_eql) (w_as rfl rfl rfl rfl rfl .nil)) ?_
  try refine e_fl ?_
  refine e_cond rfl (fun q2 => ?_) (fun q2 => ?_)
  · have hx : sget s v = (vfind v s.key, !decide ((vfind v s.key).kind = 0)) := (if_neg n1).trans (if_pos (of_decide_eq_true q2))
    try refine e_fl ?_
    refine e_list ?_
    refine l_op (s_loadn_box (ds := [_, _, _, _, _, _, _]) 7 rfl (kn rfl) rfl rfl agg_40 sz_40 rfl) ?_
    refine l_op (s_faddr_box rfl (kn rfl) off_76_3) ?_
    refine l_op (s_loadn_box (ds := [_, _, _, _, _, _, _]) 7 rfl (kn rfl) rfl rfl agg_40 sz_40 rfl) ?_
    refine l_op (s_call rfl (by kernel_rfl) (find_ef v s.key hv.f hsf) ⟨(kn rfl), ⟨(kn rfl), trivial⟩⟩) ?_
    refine e_storew rfl rfl rfl (kn rfl) rfl (kn rfl) rfl rfl sz_40 ?_
    refine e_nil ?_
    try refine e_fl ?_
    refine e_plain (w_op rfl rfl rfl (s_faddr_box rfl (kn rfl) off_40_0) (w_op rfl rfl rfl (s_load1_box rfl (kn rfl) rfl rfl one_3) (w_op rfl rfl rfl (s_bin rfl (kn rfl) (kn rfl) v_neq) (w_as rfl rfl rfl rfl rfl .nil)))) ?_
    try refine e_fl ?_
    try refine e_fl ?_
    refine e_plain (w_mv rfl rfl rfl rfl rfl (w_op rfl rfl rfl (s_not rfl (kn rfl)) .nil)) ?_
    try refine e_fl ?_
    refine e_cond rfl (fun g => ?_) (fun g => ?_)
    · have e := rget_bad p hx (not_t g)
      try refine e_fl ?_
      refine e_list ?_
      refine l_op (s_build (ds := [_, _, _, .row 8 0 [], _, .row 7 0 [], .row 14 0 []]) [] rfl trivial rfl pl_40 zr_40 (fun w D => .cons (.cell _) (.cons (.cell _) (.cons (.cell _) (.cons (.none _ _ _) (.cons (.cell _) (.cons (.none _ _ _) (.cons (.none _ _ _) (.nil _ _)))))))) rfl) ?_
      refine e_storew rfl rfl rfl (kn rfl) rfl (kn rfl) rfl rfl sz_40 ?_
      refine l_as ?_
      refine e_nil ?_
      try refine e_fl ?_
      exact e_return rfl rfl (.cell rfl rfl rfl agg_40 sz_40 rfl (.tmp (kn rfl) (.nil))) (Imp.of_eq (by rw [e]; rfl)) rfl
    have g' := not_f g
    clear g
    try refine e_fl ?_
    refine e_plain (w_mv rfl rfl rfl rfl rfl (w_op rfl rfl rfl (s_len rfl (kn rfl) sle_44) (w_op rfl rfl rfl (s_bin rfl (kn rfl) (kn rfl) v_eql) .nil))) ?_
    try refine e_fl ?_
    refine e_cond rfl (fun g2 => ?_) (fun g2 => ?_)
    · have e := rget_one hx g' (len_one g2)
      try refine e_fl ?_
      refine e_list ?_
      refine l_op (s_loadn_box (ds := [_, _, _, _, _, _, _]) 7 rfl (kn rfl) rfl rfl agg_40 sz_40 rfl) ?_
      refine e_storew rfl rfl rfl (kn rfl) rfl (kn rfl) rfl rfl sz_40 ?_
      refine l_as ?_
      refine e_nil ?_
      try refine e_fl ?_
      exact e_return rfl rfl (.cell rfl rfl rfl agg_40 sz_40 rfl (.tmp (kn rfl) (.nil))) (Imp.of_eq (by rw [e]; rfl)) rfl
    have hp0 := len_not g2
    clear g2
    try refine e_fl ?_
    refine e_plain (w_op rfl rfl rfl (s_faddr_box rfl (kn rfl) off_40_0) (w_op rfl rfl rfl (s_load1_box rfl (kn rfl) rfl rfl one_3) (w_op rfl rfl rfl (s_bin rfl (kn rfl) (kn rfl) v_eql) .nil))) ?_
    try refine e_fl ?_
    refine e_cond rfl (fun g3 => ?_) (fun g3 => ?_)
    · have e := rget_zero hx g' hp0 (of_decide_eq_true g3)
      try refine e_fl ?_
      refine e_list ?_
      refine l_op (s_build (ds := [_, _, _, .row 8 0 [], _, .row 7 0 [], .row 14 0 []]) [] rfl trivial rfl pl_40 zr_40 (fun w D => .cons (.cell _) (.cons (.cell _) (.cons (.cell _) (.cons (.none _ _ _) (.cons (.cell _) (.cons (.none _ _ _) (.cons (.none _ _ _) (.nil _ _)))))))) rfl) ?_
      refine e_storew rfl rfl rfl (kn rfl) rfl (kn rfl) rfl rfl sz_40 ?_
      refine l_as ?_
      refine e_nil ?_
      try refine e_fl ?_
      exact e_return rfl rfl (.cell rfl rfl rfl agg_40 sz_40 rfl (.tmp (kn rfl) (.nil))) (Imp.of_eq (by rw [e]; rfl)) rfl
    have e := rget_on hx g' hp0 (of_decide_eq_false g3)
    have hih := ih (vfind v s.key) (gd_of hv hx)
    clear g3
    try refine e_fl ?_
    refine e_draw_mix [(4, _)] mixed (by kernel_rfl) (WalkM.op rfl rfl rfl (s_loadn_box (ds := [_, _, _, _, _, _, _]) 7 rfl (kn rfl) rfl rfl agg_40 sz_40 rfl) (WalkM.op rfl rfl rfl (s_move rfl (kn rfl)) (WalkM.op rfl rfl rfl (s_rslice_from (qs := s :: p) (z := 1) rfl (kn rfl) (kn rfl) ⟨by decide, by rw [List.length_cons]; omega⟩ stDats_len sle_44 esz_44) (WalkM.op rfl rfl rfl (s_call rfl (by kernel_rfl) (hih) ⟨(kn rfl), ⟨(kn rfl), trivial⟩⟩) (WalkM.op rfl rfl rfl (s_extract rfl (kn rfl) rfl) (WalkM.op rfl rfl rfl (s_extract rfl (kn rfl) rfl) (WalkM.stw rfl rfl rfl (kn rfl) rfl rfl (kn rfl) rfl rfl rfl sz_40 (WalkM.op rfl rfl rfl (s_assign rfl (kn rfl)) (WalkM.nil))))))))) rfl ?_
    try refine e_fl ?_
    exact e_return rfl rfl (.cell rfl rfl rfl agg_40 sz_40 rfl (.tmp (kn rfl) (.nil))) (Imp.of_eq (by rw [e]; rfl)) rfl
  have n2 := of_decide_eq_false q2
  try refine e_fl ?_
  refine e_plain (w_op rfl rfl rfl (s_bin rfl (kn rfl) (kn rfl) v_eql) (w_as rfl rfl rfl rfl rfl .nil)) ?_
  try refine e_fl ?_
  refine e_cond rfl (fun q3 => ?_) (fun q3 => ?_)
  · have hx0 : sget s v = sidx s v := (if_neg n1).trans ((if_neg n2).trans (if_pos (of_decide_eq_true q3)))
    try refine e_fl ?_
    refine e_plain (w_op rfl rfl rfl (s_faddr_box rfl (kn rfl) off_40_0) (w_op rfl rfl rfl (s_load1_box rfl (kn rfl) rfl rfl one_3) (w_op rfl rfl rfl (s_bin rfl (kn rfl) (kn rfl) v_eql) (w_mv rfl rfl rfl rfl rfl (Walk.gd _ rfl rfl rfl (fun h => s_faddr_box rfl (kn rfl) off_76_1) (Walk.gd _ rfl rfl rfl (fun h => s_load1_box rfl (kn_opt rfl h) rfl rfl one_3) (Walk.gd _ rfl rfl rfl (fun h => s_bin rfl (kn_opt rfl h) (kn rfl) v_geq) (w_op rfl rfl rfl (s_and rfl (kn rfl) (fun hb => kn_opt rfl hb)) (w_mv rfl rfl rfl rfl rfl (Walk.gd _ rfl rfl rfl (fun h => s_faddr_box rfl (kn rfl) off_76_1) (Walk.gd _ rfl rfl rfl (fun h => s_load1_box rfl (kn_opt rfl h) rfl rfl one_3) (Walk.gd _ rfl rfl rfl (fun h => s_faddr_box rfl (kn rfl) off_40_5) (Walk.gd _ rfl rfl rfl (fun h => s_load1_box rfl (kn_opt rfl h) rfl rfl one_37) (Walk.gd _ rfl rfl rfl (fun h => s_len rfl (kn_opt rfl h) sle_37) (Walk.gd _ rfl rfl rfl (fun h => s_bin rfl (kn_opt rfl h) (kn_opt rfl h) v_lss) (w_op rfl rfl rfl (s_and rfl (kn rfl) (fun hb => kn_opt rfl hb)) .nil)))))))))))))))) ?_
    try refine e_fl ?_
    refine e_cond rfl (fun h => ?_) (fun h => ?_)
    · have hc : v.kind = 4 ∧ 0 ≤ s.num ∧ s.num < (v.list.length : Int) := by
        simp only [Bool.and_eq_true, decide_eq_true_eq] at h
        omega
      obtain ⟨x, hxl⟩ : ∃ x, v.list[s.num.toNat]? = some x := ⟨_, List.getElem?_eq_getElem (by omega)⟩
      have hx : sget s v = (x, true) := by
        rw [hx0]
        unfold sidx
        rw [if_pos hc, List.getD_eq_getElem?_getD, hxl]
        rfl
      clear h
      try refine e_fl ?_
      refine e_list ?_
      refine l_op (s_faddr_box rfl (kn rfl) off_40_5) ?_
      refine l_op (s_load1_box rfl (kn rfl) rfl rfl one_37) ?_
      refine l_op (s_faddr_box rfl (kn rfl) off_76_1) ?_
      refine l_op (s_load1_box rfl (kn rfl) rfl rfl one_3) ?_
      refine l_op (s_index rfl (kn rfl) (kn rfl) (by omega) hxl Vl.dats_len sle_37 esz_37 (dats_vd x)) ?_
      refine l_op (s_loadn_ref rfl (kn rfl) agg_40 sz_40) ?_
      refine e_storew rfl rfl rfl (kn rfl) rfl (kn rfl) rfl rfl sz_40 ?_
      refine l_as ?_
      refine e_nil ?_
      try refine e_fl ?_
      try refine e_fl ?_
      refine e_plain (w_mv rfl rfl rfl rfl rfl (w_op rfl rfl rfl (s_not rfl (kn rfl)) .nil)) ?_
      try refine e_fl ?_
      refine e_cond rfl (fun g => ?_) (fun g => ?_)
      · have e := rget_bad p hx (not_t g)
        try refine e_fl ?_
        refine e_list ?_
        refine l_op (s_build (ds := [_, _, _, .row 8 0 [], _, .row 7 0 [], .row 14 0 []]) [] rfl trivial rfl pl_40 zr_40 (fun w D => .cons (.cell _) (.cons (.cell _) (.cons (.cell _) (.cons (.none _ _ _) (.cons (.cell _) (.cons (.none _ _ _) (.cons (.none _ _ _) (.nil _ _)))))))) rfl) ?_
        refine e_storew rfl rfl rfl (kn rfl) rfl (kn rfl) rfl rfl sz_40 ?_
        refine l_as ?_
        refine e_nil ?_
        try refine e_fl ?_
        exact e_return rfl rfl (.cell rfl rfl rfl agg_40 sz_40 rfl (.tmp (kn rfl) (.nil))) (Imp.of_eq (by rw [e]; rfl)) rfl
      have g' := not_f g
      clear g
      try refine e_fl ?_
      refine e_plain (w_mv rfl rfl rfl rfl rfl (w_op rfl rfl rfl (s_len rfl (kn rfl) sle_44) (w_op rfl rfl rfl (s_bin rfl (kn rfl) (kn rfl) v_eql) .nil))) ?_
      try refine e_fl ?_
      refine e_cond rfl (fun g2 => ?_) (fun g2 => ?_)
      · have e := rget_one hx g' (len_one g2)
        try refine e_fl ?_
        refine e_list ?_
        refine l_op (s_loadn_box (ds := [_, _, _, _, _, _, _]) 7 rfl (kn rfl) rfl rfl agg_40 sz_40 rfl) ?_
        refine e_storew rfl rfl rfl (kn rfl) rfl (kn rfl) rfl rfl sz_40 ?_
        refine l_as ?_
        refine e_nil ?_
        try refine e_fl ?_
        exact e_return rfl rfl (.cell rfl rfl rfl agg_40 sz_40 rfl (.tmp (kn rfl) (.nil))) (Imp.of_eq (by rw [e]; rfl)) rfl
      have hp0 := len_not g2
      clear g2
      try refine e_fl ?_
      refine e_plain (w_op rfl rfl rfl (s_faddr_box rfl (kn rfl) off_40_0) (w_op rfl rfl rfl (s_load1_box rfl (kn rfl) rfl rfl one_3) (w_op rfl rfl rfl (s_bin rfl (kn rfl) (kn rfl) v_eql) .nil))) ?_
      try refine e_fl ?_
      refine e_cond rfl (fun g3 => ?_) (fun g3 => ?_)
      · have e := rget_zero hx g' hp0 (of_decide_eq_true g3)
        try refine e_fl ?_
        refine e_list ?_
        refine l_op (s_build (ds := [_, _, _, .row 8 0 [], _, .row 7 0 [], .row 14 0 []]) [] rfl trivial rfl pl_40 zr_40 (fun w D => .cons (.cell _) (.cons (.cell _) (.cons (.cell _) (.cons (.none _ _ _) (.cons (.cell _) (.cons (.none _ _ _) (.cons (.none _ _ _) (.nil _ _)))))))) rfl) ?_
        refine e_storew rfl rfl rfl (kn rfl) rfl (kn rfl) rfl rfl sz_40 ?_
        refine l_as ?_
        refine e_nil ?_
        try refine e_fl ?_
        exact e_return rfl rfl (.cell rfl rfl rfl agg_40 sz_40 rfl (.tmp (kn rfl) (.nil))) (Imp.of_eq (by rw [e]; rfl)) rfl
      have e := rget_on hx g' hp0 (of_decide_eq_false g3)
      have hih := ih (x) (gd_of hv hx)
      clear g3
      try refine e_fl ?_
      refine e_draw_mix [(4, _)] mixed (by kernel_rfl) (WalkM.op rfl rfl rfl (s_loadn_box (ds := [_, _, _, _, _, _, _]) 7 rfl (kn rfl) rfl rfl agg_40 sz_40 rfl) (WalkM.op rfl rfl rfl (s_move rfl (kn rfl)) (WalkM.op rfl rfl rfl (s_rslice_from (qs := s :: p) (z := 1) rfl (kn rfl) (kn rfl) ⟨by decide, by rw [List.length_cons]; omega⟩ stDats_len sle_44 esz_44) (WalkM.op rfl rfl rfl (s_call rfl (by kernel_rfl) (hih) ⟨(kn rfl), ⟨(kn rfl), trivial⟩⟩) (WalkM.op rfl rfl rfl (s_extract rfl (kn rfl) rfl) (WalkM.op rfl rfl rfl (s_extract rfl (kn rfl) rfl) (WalkM.stw rfl rfl rfl (kn rfl) rfl rfl (kn rfl) rfl rfl rfl sz_40 (WalkM.op rfl rfl rfl (s_assign rfl (kn rfl)) (WalkM.nil))))))))) rfl ?_
      try refine e_fl ?_
      exact e_return rfl rfl (.cell rfl rfl rfl agg_40 sz_40 rfl (.tmp (kn rfl) (.nil))) (Imp.of_eq (by rw [e]; rfl)) rfl
    · have hx : sget s v = (vnone, false) := by
        rw [hx0]
        refine if_neg fun hc => ?_
        simp only [Bool.and_eq_false_iff, decide_eq_false_iff_not] at h
        omega
      clear h
      try refine e_fl ?_
      refine e_plain (w_mv rfl rfl rfl rfl rfl (w_op rfl rfl rfl (s_not rfl (kn rfl)) .nil)) ?_
      try refine e_fl ?_
      refine e_cond rfl (fun g => ?_) (fun g => ?_)
      · have e := rget_bad p hx (not_t g)
        try refine e_fl ?_
        refine e_list ?_
        refine l_op (s_build (ds := [_, _, _, .row 8 0 [], _, .row 7 0 [], .row 14 0 []]) [] rfl trivial rfl pl_40 zr_40 (fun w D => .cons (.cell _) (.cons (.cell _) (.cons (.cell _) (.cons (.none _ _ _) (.cons (.cell _) (.cons (.none _ _ _) (.cons (.none _ _ _) (.nil _ _)))))))) rfl) ?_
        refine e_storew rfl rfl rfl (kn rfl) rfl (kn rfl) rfl rfl sz_40 ?_
        refine l_as ?_
        refine e_nil ?_
        try refine e_fl ?_
        exact e_return rfl rfl (.cell rfl rfl rfl agg_40 sz_40 rfl (.tmp (kn rfl) (.nil))) (Imp.of_eq (by rw [e]; rfl)) rfl
      have g' := not_f g
      clear g
      try refine e_fl ?_
      refine e_plain (w_mv rfl rfl rfl rfl rfl (w_op rfl rfl rfl (s_len rfl (kn rfl) sle_44) (w_op rfl rfl rfl (s_bin rfl (kn rfl) (kn rfl) v_eql) .nil))) ?_
      try refine e_fl ?_
      refine e_cond rfl (fun g2 => ?_) (fun g2 => ?_)
      · have e := rget_one hx g' (len_one g2)
        try refine e_fl ?_
        refine e_list ?_
        refine l_op (s_loadn_box (ds := [_, _, _, _, _, _, _]) 7 rfl (kn rfl) rfl rfl agg_40 sz_40 rfl) ?_
        refine e_storew rfl rfl rfl (kn rfl) rfl (kn rfl) rfl rfl sz_40 ?_
        refine l_as ?_
        refine e_nil ?_
        try refine e_fl ?_
        exact e_return rfl rfl (.cell rfl rfl rfl agg_40 sz_40 rfl (.tmp (kn rfl) (.nil))) (Imp.of_eq (by rw [e]; rfl)) rfl
      have hp0 := len_not g2
      clear g2
      try refine e_fl ?_
      refine e_plain (w_op rfl rfl rfl (s_faddr_box rfl (kn rfl) off_40_0) (w_op rfl rfl rfl (s_load1_box rfl (kn rfl) rfl rfl one_3) (w_op rfl rfl rfl (s_bin rfl (kn rfl) (kn rfl) v_eql) .nil))) ?_
      try refine e_fl ?_
      refine e_cond rfl (fun g3 => ?_) (fun g3 => ?_)
      · have e := rget_zero hx g' hp0 (of_decide_eq_true g3)
        try refine e_fl ?_
        refine e_list ?_
        refine l_op (s_build (ds := [_, _, _, .row 8 0 [], _, .row 7 0 [], .row 14 0 []]) [] rfl trivial rfl pl_40 zr_40 (fun w D => .cons (.cell _) (.cons (.cell _) (.cons (.cell _) (.cons (.none _ _ _) (.cons (.cell _) (.cons (.none _ _ _) (.cons (.none _ _ _) (.nil _ _)))))))) rfl) ?_
        refine e_storew rfl rfl rfl (kn rfl) rfl (kn rfl) rfl rfl sz_40 ?_
        refine l_as ?_
        refine e_nil ?_
        try refine e_fl ?_
        exact e_return rfl rfl (.cell rfl rfl rfl agg_40 sz_40 rfl (.tmp (kn rfl) (.nil))) (Imp.of_eq (by rw [e]; rfl)) rfl
      have e := rget_on hx g' hp0 (of_decide_eq_false g3)
      have hih := ih (vnone) (gd_of hv hx)
      clear g3
      try refine e_fl ?_
      refine e_draw_mix [(4, _)] mixed (by kernel_rfl) (WalkM.op rfl rfl rfl (s_loadn_box (ds := [_, _, _, _, _, _, _]) 7 rfl (kn rfl) rfl rfl agg_40 sz_40 rfl) (WalkM.op rfl rfl rfl (s_move rfl (kn rfl)) (WalkM.op rfl rfl rfl (s_rslice_from (qs := s :: p) (z := 1) rfl (kn rfl) (kn rfl) ⟨by decide, by rw [List.length_cons]; omega⟩ stDats_len sle_44 esz_44) (WalkM.op rfl rfl rfl (s_call rfl (by kernel_rfl) (hih) ⟨(kn rfl), ⟨(kn rfl), trivial⟩⟩) (WalkM.op rfl rfl rfl (s_extract rfl (kn rfl) rfl) (WalkM.op rfl rfl rfl (s_extract rfl (kn rfl) rfl) (WalkM.stw rfl rfl rfl (kn rfl) rfl rfl (kn rfl) rfl rfl rfl sz_40 (WalkM.op rfl rfl rfl (s_assign rfl (kn rfl)) (WalkM.nil))))))))) rfl ?_
      try refine e_fl ?_
      exact e_return rfl rfl (.cell rfl rfl rfl agg_40 sz_40 rfl (.tmp (kn rfl) (.nil))) (Imp.of_eq (by rw [e]; rfl)) rfl
  have n3 := of_decide_eq_false q3
  try refine e_fl ?_
  refine e_plain (w_op rfl rfl rfl (s_bin rfl (kn rfl) (kn rfl) v_eql) (w_as rfl rfl rfl rfl rfl .nil)) ?_
  try refine e_fl ?_
  refine e_cond rfl (fun q4 => ?_) (fun q4 => ?_)
  · have hx0 : sget s v = srest v := (if_neg n1).trans ((if_neg n2).trans ((if_neg n3).trans (if_pos (of_decide_eq_true q4))))
    try refine e_fl ?_
    refine e_plain (w_op rfl rfl rfl (s_faddr_box rfl (kn rfl) off_40_0) (w_op rfl rfl rfl (s_load1_box rfl (kn rfl) rfl rfl one_3) (w_op rfl rfl rfl (s_bin rfl (kn rfl) (kn rfl) v_eql) .nil))) ?_
    try refine e_fl ?_
    refine e_cond rfl (fun h => ?_) (fun h => ?_)
    · have hx : sget s v = (ktxt v.rest, true) := by rw [hx0]; exact if_pos (of_decide_eq_true h)
      try refine e_fl ?_
      refine e_list ?_
      refine l_op (s_faddr_box rfl (kn rfl) off_40_4) ?_
      refine l_op (s_load1_box rfl (kn rfl) rfl rfl one_9) ?_
      refine l_op (s_build (ds := [_, _, _, .row 8 0 [], _, .row 7 0 [], .row 14 0 []]) [(0, _), (2, _)] rfl ⟨rfl, (kn rfl), ⟨rfl, (kn rfl), trivial⟩⟩ rfl pl_40 zr_40 (fun w D => .cons (.cell _) (.cons (.cell _) (.cons (.cell _) (.cons (.none _ _ _) (.cons (.cell _) (.cons (.none _ _ _) (.cons (.none _ _ _) (.nil _ _)))))))) rfl) ?_
      refine e_storew rfl rfl rfl (kn rfl) rfl (kn rfl) rfl rfl sz_40 ?_
      refine l_as ?_
      refine e_nil ?_
      try refine e_fl ?_
      try refine e_fl ?_
      refine e_plain (w_mv rfl rfl rfl rfl rfl (w_op rfl rfl rfl (s_not rfl (kn rfl)) .nil)) ?_
      try refine e_fl ?_
      refine e_cond rfl (fun g => ?_) (fun g => ?_)
      · have e := rget_bad p hx (not_t g)
        try refine e_fl ?_
        refine e_list ?_
        refine l_op (s_build (ds := [_, _, _, .row 8 0 [], _, .row 7 0 [], .row 14 0 []]) [] rfl trivial rfl pl_40 zr_40 (fun w D => .cons (.cell _) (.cons (.cell _) (.cons (.cell _) (.cons (.none _ _ _) (.cons (.cell _) (.cons (.none _ _ _) (.cons (.none _ _ _) (.nil _ _)))))))) rfl) ?_
        refine e_storew rfl rfl rfl (kn rfl) rfl (kn rfl) rfl rfl sz_40 ?_
        refine l_as ?_
        refine e_nil ?_
        try refine e_fl ?_
        exact e_return rfl rfl (.cell rfl rfl rfl agg_40 sz_40 rfl (.tmp (kn rfl) (.nil))) (Imp.of_eq (by rw [e]; rfl)) rfl
      have g' := not_f g
      clear g
      try refine e_fl ?_
      refine e_plain (w_mv rfl rfl rfl rfl rfl (w_op rfl rfl rfl (s_len rfl (kn rfl) sle_44) (w_op rfl rfl rfl (s_bin rfl (kn rfl) (kn rfl) v_eql) .nil))) ?_
      try refine e_fl ?_
      refine e_cond rfl (fun g2 => ?_) (fun g2 => ?_)
      · have e := rget_one hx g' (len_one g2)
        try refine e_fl ?_
        refine e_list ?_
        refine l_op (s_loadn_box (ds := [_, _, _, _, _, _, _]) 7 rfl (kn rfl) rfl rfl agg_40 sz_40 rfl) ?_
        refine e_storew rfl rfl rfl (kn rfl) rfl (kn rfl) rfl rfl sz_40 ?_
        refine l_as ?_
        refine e_nil ?_
        try refine e_fl ?_
        exact e_return rfl rfl (.cell rfl rfl rfl agg_40 sz_40 rfl (.tmp (kn rfl) (.nil))) (Imp.of_eq (by rw [e]; rfl)) rfl
      have hp0 := len_not g2
      clear g2
      try refine e_fl ?_
      refine e_plain (w_op rfl rfl rfl (s_faddr_box rfl (kn rfl) off_40_0) (w_op rfl rfl rfl (s_load1_box rfl (kn rfl) rfl rfl one_3) (w_op rfl rfl rfl (s_bin rfl (kn rfl) (kn rfl) v_eql) .nil))) ?_
      try refine e_fl ?_
      refine e_cond rfl (fun g3 => ?_) (fun g3 => ?_)
      · have e := rget_zero hx g' hp0 (of_decide_eq_true g3)
        try refine e_fl ?_
        refine e_list ?_
        refine l_op (s_build (ds := [_, _, _, .row 8 0 [], _, .row 7 0 [], .row 14 0 []]) [] rfl trivial rfl pl_40 zr_40 (fun w D => .cons (.cell _) (.cons (.cell _) (.cons (.cell _) (.cons (.none _ _ _) (.cons (.cell _) (.cons (.none _ _ _) (.cons (.none _ _ _) (.nil _ _)))))))) rfl) ?_
        refine e_storew rfl rfl rfl (kn rfl) rfl (kn rfl) rfl rfl sz_40 ?_
        refine l_as ?_
        refine e_nil ?_
        try refine e_fl ?_
        exact e_return rfl rfl (.cell rfl rfl rfl agg_40 sz_40 rfl (.tmp (kn rfl) (.nil))) (Imp.of_eq (by rw [e]; rfl)) rfl
      have e := rget_on hx g' hp0 (of_decide_eq_false g3)
      have hih := ih (ktxt v.rest) (gd_of hv hx)
      clear g3
      try refine e_fl ?_
      refine e_draw_mix [(4, _)] mixed (by kernel_rfl) (WalkM.op rfl rfl rfl (s_loadn_box (ds := [_, _, _, _, _, _, _]) 7 rfl (kn rfl) rfl rfl agg_40 sz_40 rfl) (WalkM.op rfl rfl rfl (s_move rfl (kn rfl)) (WalkM.op rfl rfl rfl (s_rslice_from (qs := s :: p) (z := 1) rfl (kn rfl) (kn rfl) ⟨by decide, by rw [List.length_cons]; omega⟩ stDats_len sle_44 esz_44) (WalkM.op rfl rfl rfl (s_call rfl (by kernel_rfl) (hih) ⟨(kn rfl), ⟨(kn rfl), trivial⟩⟩) (WalkM.op rfl rfl rfl (s_extract rfl (kn rfl) rfl) (WalkM.op rfl rfl rfl (s_extract rfl (kn rfl) rfl) (WalkM.stw rfl rfl rfl (kn rfl) rfl rfl (kn rfl) rfl rfl rfl sz_40 (WalkM.op rfl rfl rfl (s_assign rfl (kn rfl)) (WalkM.nil))))))))) rfl ?_
      try refine e_fl ?_
      exact e_return rfl rfl (.cell rfl rfl rfl agg_40 sz_40 rfl (.tmp (kn rfl) (.nil))) (Imp.of_eq (by rw [e]; rfl)) rfl
    · have hx : sget s v = (vnone, false) := by rw [hx0]; exact if_neg (of_decide_eq_false h)
      try refine e_fl ?_
      refine e_plain (w_mv rfl rfl rfl rfl rfl (w_op rfl rfl rfl (s_not rfl (kn rfl)) .nil)) ?_
      try refine e_fl ?_
      refine e_cond rfl (fun g => ?_) (fun g => ?_)
      · have e := rget_bad p hx (not_t g)
        try refine e_fl ?_
        refine e_list ?_
        refine l_op (s_build (ds := [_, _, _, .row 8 0 [], _, .row 7 0 [], .row 14 0 []]) [] rfl trivial rfl pl_40 zr_40 (fun w D => .cons (.cell _) (.cons (.cell _) (.cons (.cell _) (.cons (.none _ _ _) (.cons (.cell _) (.cons (.none _ _ _) (.cons (.none _ _ _) (.nil _ _)))))))) rfl) ?_
        refine e_storew rfl rfl rfl (kn rfl) rfl (kn rfl) rfl rfl sz_40 ?_
        refine l_as ?_
        refine e_nil ?_
        try refine e_fl ?_
        exact e_return rfl rfl (.cell rfl rfl rfl agg_40 sz_40 rfl (.tmp (kn rfl) (.nil))) (Imp.of_eq (by rw [e]; rfl)) rfl
      have g' := not_f g
      clear g
      try refine e_fl ?_
      refine e_plain (w_mv rfl rfl rfl rfl rfl (w_op rfl rfl rfl (s_len rfl (kn rfl) sle_44) (w_op rfl rfl rfl (s_bin rfl (kn rfl) (kn rfl) v_eql) .nil))) ?_
      try refine e_fl ?_
      refine e_cond rfl (fun g2 => ?_) (fun g2 => ?_)
      · have e := rget_one hx g' (len_one g2)
        try refine e_fl ?_
        refine e_list ?_
        refine l_op (s_loadn_box (ds := [_, _, _, _, _, _, _]) 7 rfl (kn rfl) rfl rfl agg_40 sz_40 rfl) ?_
        refine e_storew rfl rfl rfl (kn rfl) rfl (kn rfl) rfl rfl sz_40 ?_
        refine l_as ?_
        refine e_nil ?_
        try refine e_fl ?_
        exact e_return rfl rfl (.cell rfl rfl rfl agg_40 sz_40 rfl (.tmp (kn rfl) (.nil))) (Imp.of_eq (by rw [e]; rfl)) rfl
      have hp0 := len_not g2
      clear g2
      try refine e_fl ?_
      refine e_plain (w_op rfl rfl rfl (s_faddr_box rfl (kn rfl) off_40_0) (w_op rfl rfl rfl (s_load1_box rfl (kn rfl) rfl rfl one_3) (w_op rfl rfl rfl (s_bin rfl (kn rfl) (kn rfl) v_eql) .nil))) ?_
      try refine e_fl ?_
      refine e_cond rfl (fun g3 => ?_) (fun g3 => ?_)
      · have e := rget_zero hx g' hp0 (of_decide_eq_true g3)
        try refine e_fl ?_
        refine e_list ?_
        refine l_op (s_build (ds := [_, _, _, .row 8 0 [], _, .row 7 0 [], .row 14 0 []]) [] rfl trivial rfl pl_40 zr_40 (fun w D => .cons (.cell _) (.cons (.cell _) (.cons (.cell _) (.cons (.none _ _ _) (.cons (.cell _) (.cons (.none _ _ _) (.cons (.none _ _ _) (.nil _ _)))))))) rfl) ?_
        refine e_storew rfl rfl rfl (kn rfl) rfl (kn rfl) rfl rfl sz_40 ?_
        refine l_as ?_
        refine e_nil ?_
        try refine e_fl ?_
        exact e_return rfl rfl (.cell rfl rfl rfl agg_40 sz_40 rfl (.tmp (kn rfl) (.nil))) (Imp.of_eq (by rw [e]; rfl)) rfl
      have e := rget_on hx g' hp0 (of_decide_eq_false g3)
      have hih := ih (vnone) (gd_of hv hx)
      clear g3
      try refine e_fl ?_
      refine e_draw_mix [(4, _)] mixed (by kernel_rfl) (WalkM.op rfl rfl rfl (s_loadn_box (ds := [_, _, _, _, _, _, _]) 7 rfl (kn rfl) rfl rfl agg_40 sz_40 rfl) (WalkM.op rfl rfl rfl (s_move rfl (kn rfl)) (WalkM.op rfl rfl rfl (s_rslice_from (qs := s :: p) (z := 1) rfl (kn rfl) (kn rfl) ⟨by decide, by rw [List.length_cons]; omega⟩ stDats_len sle_44 esz_44) (WalkM.op rfl rfl rfl (s_call rfl (by kernel_rfl) (hih) ⟨(kn rfl), ⟨(kn rfl), trivial⟩⟩) (WalkM.op rfl rfl rfl (s_extract rfl (kn rfl) rfl) (WalkM.op rfl rfl rfl (s_extract rfl (kn rfl) rfl) (WalkM.stw rfl rfl rfl (kn rfl) rfl rfl (kn rfl) rfl rfl rfl sz_40 (WalkM.op rfl rfl rfl (s_assign rfl (kn rfl)) (WalkM.nil))))))))) rfl ?_
      try refine e_fl ?_
      exact e_return rfl rfl (.cell rfl rfl rfl agg_40 sz_40 rfl (.tmp (kn rfl) (.nil))) (Imp.of_eq (by rw [e]; rfl)) rfl
  have n4 := of_decide_eq_false q4
  try refine e_fl ?_
  refine e_plain (w_op rfl rfl rfl (s_bin rfl (kn rfl) (kn rfl) v_eql) (w_as rfl rfl rfl rfl rfl .nil)) ?_
  try refine e_fl ?_
  refine e_cond rfl (fun q5 => ?_) (fun q5 => ?_)
  · have hx0 : sget s v = sspan s v := (if_neg n1).trans ((if_neg n2).trans ((if_neg n3).trans ((if_neg n4).trans (if_pos (of_decide_eq_true q5)))))
    try refine e_fl ?_
    refine e_plain (w_op rfl rfl rfl (s_faddr_box rfl (kn rfl) off_40_0) (w_op rfl rfl rfl (s_load1_box rfl (kn rfl) rfl rfl one_3) (w_op rfl rfl rfl (s_bin rfl (kn rfl) (kn rfl) v_eql) (w_mv rfl rfl rfl rfl rfl (Walk.gd _ rfl rfl rfl (fun h => s_faddr_box rfl (kn rfl) off_76_1) (Walk.gd _ rfl rfl rfl (fun h => s_load1_box rfl (kn_opt rfl h) rfl rfl one_3) (Walk.gd _ rfl rfl rfl (fun h => s_bin rfl (kn_opt rfl h) (kn rfl) v_geq) (w_op rfl rfl rfl (s_and rfl (kn rfl) (fun hb => kn_opt rfl hb)) (w_mv rfl rfl rfl rfl rfl (Walk.gd _ rfl rfl rfl (fun h => s_faddr_box rfl (kn rfl) off_76_1) (Walk.gd _ rfl rfl rfl (fun h => s_load1_box rfl (kn_opt rfl h) rfl rfl one_3) (Walk.gd _ rfl rfl rfl (fun h => s_faddr_box rfl (kn rfl) off_76_2) (Walk.gd _ rfl rfl rfl (fun h => s_load1_box rfl (kn_opt rfl h) rfl rfl one_3) (Walk.gd _ rfl rfl rfl (fun h => s_bin rfl (kn_opt rfl h) (kn_opt rfl h) v_leq) (w_op rfl rfl rfl (s_and rfl (kn rfl) (fun hb => kn_opt rfl hb)) (w_mv rfl rfl rfl rfl rfl (Walk.gd _ rfl rfl rfl (fun h => s_faddr_box rfl (kn rfl) off_76_2) (Walk.gd _ rfl rfl rfl (fun h => s_load1_box rfl (kn_opt rfl h) rfl rfl one_3) (Walk.gd _ rfl rfl rfl (fun h => s_faddr_box rfl (kn rfl) off_40_5) (Walk.gd _ rfl rfl rfl (fun h => s_load1_box rfl (kn_opt rfl h) rfl rfl one_37) (Walk.gd _ rfl rfl rfl (fun h => s_len rfl (kn_opt rfl h) sle_37) (Walk.gd _ rfl rfl rfl (fun h => s_bin rfl (kn_opt rfl h) (kn_opt rfl h) v_leq) (w_op rfl rfl rfl (s_and rfl (kn rfl) (fun hb => kn_opt rfl hb)) .nil))))))))))))))))))))))) ?_
    try refine e_fl ?_
    refine e_cond rfl (fun h => ?_) (fun h => ?_)
    · have hc : v.kind = 4 ∧ 0 ≤ s.num ∧ s.num ≤ s.to ∧ s.to ≤ (v.list.length : Int) := by
        simp only [Bool.and_eq_true, decide_eq_true_eq] at h
        omega
      have e1 : sspan s v = if s.num < s.to then (vlst ((v.list.take s.to.toNat).drop s.num.toNat), true) else (vnone, true) := if_pos hc
      clear h
      try refine e_fl ?_
      refine e_plain (w_as rfl rfl rfl rfl rfl .nil) ?_
      try refine e_fl ?_
      refine e_plain (w_op rfl rfl rfl (s_faddr_box rfl (kn rfl) off_76_1) (w_op rfl rfl rfl (s_load1_box rfl (kn rfl) rfl rfl one_3) (w_op rfl rfl rfl (s_faddr_box rfl (kn rfl) off_76_2) (w_op rfl rfl rfl (s_load1_box rfl (kn rfl) rfl rfl one_3) (w_op rfl rfl rfl (s_bin rfl (kn rfl) (kn rfl) v_lss) .nil))))) ?_
      try refine e_fl ?_
      refine e_cond rfl (fun h => ?_) (fun h => ?_)
      · have hx : sget s v = (vlst ((v.list.take s.to.toNat).drop s.num.toNat), true) := by rw [hx0, e1, if_pos (of_decide_eq_true h)]
        try refine e_fl ?_
        refine e_list ?_
        refine l_op (s_faddr_box rfl (kn rfl) off_40_5) ?_
        refine l_op (s_load1_box rfl (kn rfl) rfl rfl one_37) ?_
        refine l_op (s_faddr_box rfl (kn rfl) off_76_1) ?_
        refine l_op (s_load1_box rfl (kn rfl) rfl rfl one_3) ?_
        refine l_op (s_faddr_box rfl (kn rfl) off_76_2) ?_
        refine l_op (s_load1_box rfl (kn rfl) rfl rfl one_3) ?_
        refine l_op (s_rslice_mid rfl (kn rfl) (kn rfl) (kn rfl) ⟨hc.2.1, hc.2.2.1⟩ hc.2.2.2 Vl.dats_len sle_37 esz_37) ?_
        refine l_op (s_build (ds := [_, _, _, .row 8 0 [], _, _, .row 14 0 []]) [(0, _), (5, _)] rfl ⟨rfl, (kn rfl), ⟨rfl, (kn rfl), trivial⟩⟩ rfl pl_40 zr_40 (fun w D => .cons (.cell _) (.cons (.cell _) (.cons (.cell _) (.cons (.none _ _ _) (.cons (.cell _) (.cons (.cell _) (.cons (.none _ _ _) (.nil _ _)))))))) rfl) ?_
        refine e_storew rfl rfl rfl (kn rfl) rfl (kn rfl) rfl rfl sz_40 ?_
        refine e_nil ?_
        try refine e_fl ?_
        try refine e_fl ?_
        refine e_plain (w_mv rfl rfl rfl rfl rfl (w_op rfl rfl rfl (s_not rfl (kn rfl)) .nil)) ?_
        try refine e_fl ?_
        refine e_cond rfl (fun g => ?_) (fun g => ?_)
        · have e := rget_bad p hx (not_t g)
          try refine e_fl ?_
          refine e_list ?_
          refine l_op (s_build (ds := [_, _, _, .row 8 0 [], _, .row 7 0 [], .row 14 0 []]) [] rfl trivial rfl pl_40 zr_40 (fun w D => .cons (.cell _) (.cons (.cell _) (.cons (.cell _) (.cons (.none _ _ _) (.cons (.cell _) (.cons (.none _ _ _) (.cons (.none _ _ _) (.nil _ _)))))))) rfl) ?_
          refine e_storew rfl rfl rfl (kn rfl) rfl (kn rfl) rfl rfl sz_40 ?_
          refine l_as ?_
          refine e_nil ?_
          try refine e_fl ?_
          exact e_return rfl rfl (.cell rfl rfl rfl agg_40 sz_40 rfl (.tmp (kn rfl) (.nil))) (Imp.of_eq (by rw [e]; rfl)) rfl
        have g' := not_f g
        clear g
        try refine e_fl ?_
        refine e_plain (w_mv rfl rfl rfl rfl rfl (w_op rfl rfl rfl (s_len rfl (kn rfl) sle_44) (w_op rfl rfl rfl (s_bin rfl (kn rfl) (kn rfl) v_eql) .nil))) ?_
        try refine e_fl ?_
        refine e_cond rfl (fun g2 => ?_) (fun g2 => ?_)
        · have e := rget_one hx g' (len_one g2)
          try refine e_fl ?_
          refine e_list ?_
          refine l_op (s_loadn_box (ds := [_, _, _, _, _, _, _]) 7 rfl (kn rfl) rfl rfl agg_40 sz_40 rfl) ?_
          refine e_storew rfl rfl rfl (kn rfl) rfl (kn rfl) rfl rfl sz_40 ?_
          refine l_as ?_
          refine e_nil ?_
          try refine e_fl ?_
          exact e_return rfl rfl (.cell rfl rfl rfl agg_40 sz_40 rfl (.tmp (kn rfl) (.nil))) (Imp.of_eq (by rw [e]; rfl)) rfl
        have hp0 := len_not g2
        clear g2
        try refine e_fl ?_
        refine e_plain (w_op rfl rfl rfl (s_faddr_box rfl (kn rfl) off_40_0) (w_op rfl rfl rfl (s_load1_box rfl (kn rfl) rfl rfl one_3) (w_op rfl rfl rfl (s_bin rfl (kn rfl) (kn rfl) v_eql) .nil))) ?_
        try refine e_fl ?_
        refine e_cond rfl (fun g3 => ?_) (fun g3 => ?_)
        · have e := rget_zero hx g' hp0 (of_decide_eq_true g3)
          try refine e_fl ?_
          refine e_list ?_
          refine l_op (s_build (ds := [_, _, _, .row 8 0 [], _, .row 7 0 [], .row 14 0 []]) [] rfl trivial rfl pl_40 zr_40 (fun w D => .cons (.cell _) (.cons (.cell _) (.cons (.cell _) (.cons (.none _ _ _) (.cons (.cell _) (.cons (.none _ _ _) (.cons (.none _ _ _) (.nil _ _)))))))) rfl) ?_
          refine e_storew rfl rfl rfl (kn rfl) rfl (kn rfl) rfl rfl sz_40 ?_
          refine l_as ?_
          refine e_nil ?_
          try refine e_fl ?_
          exact e_return rfl rfl (.cell rfl rfl rfl agg_40 sz_40 rfl (.tmp (kn rfl) (.nil))) (Imp.of_eq (by rw [e]; rfl)) rfl
        have e := rget_on hx g' hp0 (of_decide_eq_false g3)
        have hih := ih (vlst ((v.list.take s.to.toNat).drop s.num.toNat)) (gd_of hv hx)
        clear g3
        try refine e_fl ?_
        refine e_draw_mix [(4, _)] mixed (by kernel_rfl) (WalkM.op rfl rfl rfl (s_loadn_box (ds := [_, _, _, _, _, _, _]) 7 rfl (kn rfl) rfl rfl agg_40 sz_40 rfl) (WalkM.op rfl rfl rfl (s_move rfl (kn rfl)) (WalkM.op rfl rfl rfl (s_rslice_from (qs := s :: p) (z := 1) rfl (kn rfl) (kn rfl) ⟨by decide, by rw [List.length_cons]; omega⟩ stDats_len sle_44 esz_44) (WalkM.op rfl rfl rfl (s_call rfl (by kernel_rfl) (hih) ⟨(kn rfl), ⟨(kn rfl), trivial⟩⟩) (WalkM.op rfl rfl rfl (s_extract rfl (kn rfl) rfl) (WalkM.op rfl rfl rfl (s_extract rfl (kn rfl) rfl) (WalkM.stw rfl rfl rfl (kn rfl) rfl rfl (kn rfl) rfl rfl rfl sz_40 (WalkM.op rfl rfl rfl (s_assign rfl (kn rfl)) (WalkM.nil))))))))) rfl ?_
        try refine e_fl ?_
        exact e_return rfl rfl (.cell rfl rfl rfl agg_40 sz_40 rfl (.tmp (kn rfl) (.nil))) (Imp.of_eq (by rw [e]; rfl)) rfl
      · have hx : sget s v = (vnone, true) := by rw [hx0, e1, if_neg (of_decide_eq_false h)]
        try refine e_fl ?_
        refine e_plain (w_mv rfl rfl rfl rfl rfl (w_op rfl rfl rfl (s_not rfl (kn rfl)) .nil)) ?_
        try refine e_fl ?_
        refine e_cond rfl (fun g => ?_) (fun g => ?_)
        · have e := rget_bad p hx (not_t g)
          try refine e_fl ?_
          refine e_list ?_
          refine l_op (s_build (ds := [_, _, _, .row 8 0 [], _, .row 7 0 [], .row 14 0 []]) [] rfl trivial rfl pl_40 zr_40 (fun w D => .cons (.cell _) (.cons (.cell _) (.cons (.cell _) (.cons (.none _ _ _) (.cons (.cell _) (.cons (.none _ _ _) (.cons (.none _ _ _) (.nil _ _)))))))) rfl) ?_
          refine e_storew rfl rfl rfl (kn rfl) rfl (kn rfl) rfl rfl sz_40 ?_
          refine l_as ?_
          refine e_nil ?_
          try refine e_fl ?_
          exact e_return rfl rfl (.cell rfl rfl rfl agg_40 sz_40 rfl (.tmp (kn rfl) (.nil))) (Imp.of_eq (by rw [e]; rfl)) rfl
        have g' := not_f g
        clear g
        try refine e_fl ?_
        refine e_plain (w_mv rfl rfl rfl rfl rfl (w_op rfl rfl rfl (s_len rfl (kn rfl) sle_44) (w_op rfl rfl rfl (s_bin rfl (kn rfl) (kn rfl) v_eql) .nil))) ?_
        try refine e_fl ?_
        refine e_cond rfl (fun g2 => ?_) (fun g2 => ?_)
        · have e := rget_one hx g' (len_one g2)
          try refine e_fl ?_
          refine e_list ?_
          refine l_op (s_loadn_box (ds := [_, _, _, _, _, _, _]) 7 rfl (kn rfl) rfl rfl agg_40 sz_40 rfl) ?_
          refine e_storew rfl rfl rfl (kn rfl) rfl (kn rfl) rfl rfl sz_40 ?_
          refine l_as ?_
          refine e_nil ?_
          try refine e_fl ?_
          exact e_return rfl rfl (.cell rfl rfl rfl agg_40 sz_40 rfl (.tmp (kn rfl) (.nil))) (Imp.of_eq (by rw [e]; rfl)) rfl
        have hp0 := len_not g2
        clear g2
        try refine e_fl ?_
        refine e_plain (w_op rfl rfl rfl (s_faddr_box rfl (kn rfl) off_40_0) (w_op rfl rfl rfl (s_load1_box rfl (kn rfl) rfl rfl one_3) (w_op rfl rfl rfl (s_bin rfl (kn rfl) (kn rfl) v_eql) .nil))) ?_
        try refine e_fl ?_
        refine e_cond rfl (fun g3 => ?_) (fun g3 => ?_)
        · have e := rget_zero hx g' hp0 (of_decide_eq_true g3)
          try refine e_fl ?_
          refine e_list ?_
          refine l_op (s_build (ds := [_, _, _, .row 8 0 [], _, .row 7 0 [], .row 14 0 []]) [] rfl trivial rfl pl_40 zr_40 (fun w D => .cons (.cell _) (.cons (.cell _) (.cons (.cell _) (.cons (.none _ _ _) (.cons (.cell _) (.cons (.none _ _ _) (.cons (.none _ _ _) (.nil _ _)))))))) rfl) ?_
          refine e_storew rfl rfl rfl (kn rfl) rfl (kn rfl) rfl rfl sz_40 ?_
          refine l_as ?_
          refine e_nil ?_
          try refine e_fl ?_
          exact e_return rfl rfl (.cell rfl rfl rfl agg_40 sz_40 rfl (.tmp (kn rfl) (.nil))) (Imp.of_eq (by rw [e]; rfl)) rfl
        have e := rget_on hx g' hp0 (of_decide_eq_false g3)
        have hih := ih (vnone) (gd_of hv hx)
        clear g3
        try refine e_fl ?_
        refine e_draw_mix [(4, _)] mixed (by kernel_rfl) (WalkM.op rfl rfl rfl (s_loadn_box (ds := [_, _, _, _, _, _, _]) 7 rfl (kn rfl) rfl rfl agg_40 sz_40 rfl) (WalkM.op rfl rfl rfl (s_move rfl (kn rfl)) (WalkM.op rfl rfl rfl (s_rslice_from (qs := s :: p) (z := 1) rfl (kn rfl) (kn rfl) ⟨by decide, by rw [List.length_cons]; omega⟩ stDats_len sle_44 esz_44) (WalkM.op rfl rfl rfl (s_call rfl (by kernel_rfl) (hih) ⟨(kn rfl), ⟨(kn rfl), trivial⟩⟩) (WalkM.op rfl rfl rfl (s_extract rfl (kn rfl) rfl) (WalkM.op rfl rfl rfl (s_extract rfl (kn rfl) rfl) (WalkM.stw rfl rfl rfl (kn rfl) rfl rfl (kn rfl) rfl rfl rfl sz_40 (WalkM.op rfl rfl rfl (s_assign rfl (kn rfl)) (WalkM.nil))))))))) rfl ?_
        try refine e_fl ?_
        exact e_return rfl rfl (.cell rfl rfl rfl agg_40 sz_40 rfl (.tmp (kn rfl) (.nil))) (Imp.of_eq (by rw [e]; rfl)) rfl
    · have hx : sget s v = (vnone, false) := by
        rw [hx0]
        refine if_neg fun hc => ?_
        simp only [Bool.and_eq_false_iff, decide_eq_false_iff_not] at h
        omega
      clear h
      try refine e_fl ?_
      refine e_plain (w_mv rfl rfl rfl rfl rfl (w_op rfl rfl rfl (s_not rfl (kn rfl)) .nil)) ?_
      try refine e_fl ?_
      refine e_cond rfl (fun g => ?_) (fun g => ?_)
      · have e := rget_bad p hx (not_t g)
        try refine e_fl ?_
        refine e_list ?_
        refine l_op (s_build (ds := [_, _, _, .row 8 0 [], _, .row 7 0 [], .row 14 0 []]) [] rfl trivial rfl pl_40 zr_40 (fun w D => .cons (.cell _) (.cons (.cell _) (.cons (.cell _) (.cons (.none _ _ _) (.cons (.cell _) (.cons (.none _ _ _) (.cons (.none _ _ _) (.nil _ _)))))))) rfl) ?_
        refine e_storew rfl rfl rfl (kn rfl) rfl (kn rfl) rfl rfl sz_40 ?_
        refine l_as ?_
        refine e_nil ?_
        try refine e_fl ?_
        exact e_return rfl rfl (.cell rfl rfl rfl agg_40 sz_40 rfl (.tmp (kn rfl) (.nil))) (Imp.of_eq (by rw [e]; rfl)) rfl
      have g' := not_f g
      clear g
      try refine e_fl ?_
      refine e_plain (w_mv rfl rfl rfl rfl rfl (w_op rfl rfl rfl (s_len rfl (kn rfl) sle_44) (w_op rfl rfl rfl (s_bin rfl (kn rfl) (kn rfl) v_eql) .nil))) ?_
      try refine e_fl ?_
      refine e_cond rfl (fun g2 => ?_) (fun g2 => ?_)
      · have e := rget_one hx g' (len_one g2)
        try refine e_fl ?_
        refine e_list ?_
        refine l_op (s_loadn_box (ds := [_, _, _, _, _, _, _]) 7 rfl (kn rfl) rfl rfl agg_40 sz_40 rfl) ?_
        refine e_storew rfl rfl rfl (kn rfl) rfl (kn rfl) rfl rfl sz_40 ?_
        refine l_as ?_
        refine e_nil ?_
        try refine e_fl ?_
        exact e_return rfl rfl (.cell rfl rfl rfl agg_40 sz_40 rfl (.tmp (kn rfl) (.nil))) (Imp.of_eq (by rw [e]; rfl)) rfl
      have hp0 := len_not g2
      clear g2
      try refine e_fl ?_
      refine e_plain (w_op rfl rfl rfl (s_faddr_box rfl (kn rfl) off_40_0) (w_op rfl rfl rfl (s_load1_box rfl (kn rfl) rfl rfl one_3) (w_op rfl rfl rfl (s_bin rfl (kn rfl) (kn rfl) v_eql) .nil))) ?_
      try refine e_fl ?_
      refine e_cond rfl (fun g3 => ?_) (fun g3 => ?_)
      · have e := rget_zero hx g' hp0 (of_decide_eq_true g3)
        try refine e_fl ?_
        refine e_list ?_
        refine l_op (s_build (ds := [_, _, _, .row 8 0 [], _, .row 7 0 [], .row 14 0 []]) [] rfl trivial rfl pl_40 zr_40 (fun w D => .cons (.cell _) (.cons (.cell _) (.cons (.cell _) (.cons (.none _ _ _) (.cons (.cell _) (.cons (.none _ _ _) (.cons (.none _ _ _) (.nil _ _)))))))) rfl) ?_
        refine e_storew rfl rfl rfl (kn rfl) rfl (kn rfl) rfl rfl sz_40 ?_
        refine l_as ?_
        refine e_nil ?_
        try refine e_fl ?_
        exact e_return rfl rfl (.cell rfl rfl rfl agg_40 sz_40 rfl (.tmp (kn rfl) (.nil))) (Imp.of_eq (by rw [e]; rfl)) rfl
      have e := rget_on hx g' hp0 (of_decide_eq_false g3)
      have hih := ih (vnone) (gd_of hv hx)
      clear g3
      try refine e_fl ?_
      refine e_draw_mix [(4, _)] mixed (by kernel_rfl) (WalkM.op rfl rfl rfl (s_loadn_box (ds := [_, _, _, _, _, _, _]) 7 rfl (kn rfl) rfl rfl agg_40 sz_40 rfl) (WalkM.op rfl rfl rfl (s_move rfl (kn rfl)) (WalkM.op rfl rfl rfl (s_rslice_from (qs := s :: p) (z := 1) rfl (kn rfl) (kn rfl) ⟨by decide, by rw [List.length_cons]; omega⟩ stDats_len sle_44 esz_44) (WalkM.op rfl rfl rfl (s_call rfl (by kernel_rfl) (hih) ⟨(kn rfl), ⟨(kn rfl), trivial⟩⟩) (WalkM.op rfl rfl rfl (s_extract rfl (kn rfl) rfl) (WalkM.op rfl rfl rfl (s_extract rfl (kn rfl) rfl) (WalkM.stw rfl rfl rfl (kn rfl) rfl rfl (kn rfl) rfl rfl rfl sz_40 (WalkM.op rfl rfl rfl (s_assign rfl (kn rfl)) (WalkM.nil))))))))) rfl ?_
      try refine e_fl ?_
      exact e_return rfl rfl (.cell rfl rfl rfl agg_40 sz_40 rfl (.tmp (kn rfl) (.nil))) (Imp.of_eq (by rw [e]; rfl)) rfl
  have n5 := of_decide_eq_false q5
  have hx : sget s v = (vnone, false) := (if_neg n1).trans ((if_neg n2).trans ((if_neg n3).trans ((if_neg n4).trans (if_neg n5))))
  try refine e_fl ?_
  refine e_plain (w_mv rfl rfl rfl rfl rfl (w_op rfl rfl rfl (s_not rfl (kn rfl)) .nil)) ?_
  try refine e_fl ?_
  refine e_cond rfl (fun g => ?_) (fun g => ?_)
  · have e := rget_bad p hx (not_t g)
    try refine e_fl ?_
    refine e_list ?_
    refine l_op (s_build (ds := [_, _, _, .row 8 0 [], _, .row 7 0 [], .row 14 0 []]) [] rfl trivial rfl pl_40 zr_40 (fun w D => .cons (.cell _) (.cons (.cell _) (.cons (.cell _) (.cons (.none _ _ _) (.cons (.cell _) (.cons (.none _ _ _) (.cons (.none _ _ _) (.nil _ _)))))))) rfl) ?_
    refine e_storew rfl rfl rfl (kn rfl) rfl (kn rfl) rfl rfl sz_40 ?_
    refine l_as ?_
    refine e_nil ?_
    try refine e_fl ?_
    exact e_return rfl rfl (.cell rfl rfl rfl agg_40 sz_40 rfl (.tmp (kn rfl) (.nil))) (Imp.of_eq (by rw [e]; rfl)) rfl
  have g' := not_f g
  clear g
  try refine e_fl ?_
  refine e_plain (w_mv rfl rfl rfl rfl rfl (w_op rfl rfl rfl (s_len rfl (kn rfl) sle_44) (w_op rfl rfl rfl (s_bin rfl (kn rfl) (kn rfl) v_eql) .nil))) ?_
  try refine e_fl ?_
  refine e_cond rfl (fun g2 => ?_) (fun g2 => ?_)
  · have e := rget_one hx g' (len_one g2)
    try refine e_fl ?_
    refine e_list ?_
    refine l_op (s_loadn_box (ds := [_, _, _, _, _, _, _]) 7 rfl (kn rfl) rfl rfl agg_40 sz_40 rfl) ?_
    refine e_storew rfl rfl rfl (kn rfl) rfl (kn rfl) rfl rfl sz_40 ?_
    refine l_as ?_
    refine e_nil ?_
    try refine e_fl ?_
    exact e_return rfl rfl (.cell rfl rfl rfl agg_40 sz_40 rfl (.tmp (kn rfl) (.nil))) (Imp.of_eq (by rw [e]; rfl)) rfl
  have hp0 := len_not g2
  clear g2
  try refine e_fl ?_
  refine e_plain (w_op rfl rfl rfl (s_faddr_box rfl (kn rfl) off_40_0) (w_op rfl rfl rfl (s_load1_box rfl (kn rfl) rfl rfl one_3) (w_op rfl rfl rfl (s_bin rfl (kn rfl) (kn rfl) v_eql) .nil))) ?_
  try refine e_fl ?_
  refine e_cond rfl (fun g3 => ?_) (fun g3 => ?_)
  · have e := rget_zero hx g' hp0 (of_decide_eq_true g3)
    try refine e_fl ?_
    refine e_list ?_
    refine l_op (s_build (ds := [_, _, _, .row 8 0 [], _, .row 7 0 [], .row 14 0 []]) [] rfl trivial rfl pl_40 zr_40 (fun w D => .cons (.cell _) (.cons (.cell _) (.cons (.cell _) (.cons (.none _ _ _) (.cons (.cell _) (.cons (.none _ _ _) (.cons (.none _ _ _) (.nil _ _)))))))) rfl) ?_
    refine e_storew rfl rfl rfl (kn rfl) rfl (kn rfl) rfl rfl sz_40 ?_
    refine l_as ?_
    refine e_nil ?_
    try refine e_fl ?_
    exact e_return rfl rfl (.cell rfl rfl rfl agg_40 sz_40 rfl (.tmp (kn rfl) (.nil))) (Imp.of_eq (by rw [e]; rfl)) rfl
  have e := rget_on hx g' hp0 (of_decide_eq_false g3)
  have hih := ih (vnone) (gd_of hv hx)
  clear g3
  try refine e_fl ?_
  refine e_draw_mix [(4, _)] mixed (by kernel_rfl) (WalkM.op rfl rfl rfl (s_loadn_box (ds := [_, _, _, _, _, _, _]) 7 rfl (kn rfl) rfl rfl agg_40 sz_40 rfl) (WalkM.op rfl rfl rfl (s_move rfl (kn rfl)) (WalkM.op rfl rfl rfl (s_rslice_from (qs := s :: p) (z := 1) rfl (kn rfl) (kn rfl) ⟨by decide, by rw [List.length_cons]; omega⟩ stDats_len sle_44 esz_44) (WalkM.op rfl rfl rfl (s_call rfl (by kernel_rfl) (hih) ⟨(kn rfl), ⟨(kn rfl), trivial⟩⟩) (WalkM.op rfl rfl rfl (s_extract rfl (kn rfl) rfl) (WalkM.op rfl rfl rfl (s_extract rfl (kn rfl) rfl) (WalkM.stw rfl rfl rfl (kn rfl) rfl rfl (kn rfl) rfl rfl rfl sz_40 (WalkM.op rfl rfl rfl (s_assign rfl (kn rfl)) (WalkM.nil))))))))) rfl ?_
  try refine e_fl ?_
  exact e_return rfl rfl (.cell rfl rfl rfl agg_40 sz_40 rfl (.tmp (kn rfl) (.nil))) (Imp.of_eq (by rw [e]; rfl)) rfl
set_option maxRecDepth 100000 in
theorem rget_nil (v : Vl) : EF Tryz.prog [] 11 [.many (vd v), stD []] (gR v (!decide (v.kind = 0))) := by
  refine ef_enter 127 Tryz.func11 rfl rfl rfl fun w D => ?_
  try refine e_fl ?_
  refine e_list ?_
  refine e_box 2 rfl rfl rfl rfl (kn rfl) rfl rfl rfl rfl ?_
  refine e_alloc 4 [.is (.int .i64 0), .is (.int .u64 0), .is (.string ⟨#[]⟩), .is (.slice none 0 0), .is (.string ⟨#[]⟩), .is (.slice none 0 0), .is (.slice none 0 0)] rfl rfl rfl rfl zr_40 (fun w D M V => ⟨rfl, fun j x v h1 h2 => cfit_is _ h1 h2 rfl⟩) rfl rfl rfl rfl ?_
  refine l_as ?_
  refine e_nil ?_
  try refine e_fl ?_
  refine e_plain (w_mv rfl rfl rfl rfl rfl (w_op rfl rfl rfl (s_len rfl (kn rfl) sle_44) (w_op rfl rfl rfl (s_bin rfl (kn rfl) (kn rfl) v_eql) .nil))) ?_
  try refine e_fl ?_
  refine e_cond rfl (fun h => ?_) (fun h => ?_)
  · try refine e_fl ?_
    refine e_draw_mix [(4, _)] mixed (by kernel_rfl) (WalkM.op rfl rfl rfl (s_loadn_box (ds := [_, _, _, _, _, _, _]) 7 rfl (kn rfl) rfl rfl agg_40 sz_40 rfl) (WalkM.op rfl rfl rfl (s_faddr_box rfl (kn rfl) off_40_0) (WalkM.op rfl rfl rfl (s_load1_box rfl (kn rfl) rfl rfl one_3) (WalkM.op rfl rfl rfl (s_bin rfl (kn rfl) (kn rfl) v_neq) (WalkM.stw rfl rfl rfl (kn rfl) rfl rfl (kn rfl) rfl rfl rfl sz_40 (WalkM.op rfl rfl rfl (s_assign rfl (kn rfl)) (WalkM.nil))))))) rfl ?_
    try refine e_fl ?_
    exact e_return rfl rfl (.cell rfl rfl rfl agg_40 sz_40 rfl (.tmp (kn rfl) (.nil))) (Imp.of_eq rfl) rfl
  · exact absurd (of_decide_eq_false h) (by decide)
theorem rget_ef : ∀ (p : List St), KeysFine p → ∀ v, Gd v → EF Tryz.prog [] 11 [.many (vd v), stD p] (gR (rget v p).1 (rget v p).2)
  | [], _, v, _ => rget_nil v
  | s :: p, hk, v, hv => rget_cons s (hk s List.mem_cons_self) p (rget_ef p fun t ht => hk t (List.mem_cons_of_mem _ ht)) v hv
end Go.Proofs.YtagoikglbifhmaaGreatDoor
