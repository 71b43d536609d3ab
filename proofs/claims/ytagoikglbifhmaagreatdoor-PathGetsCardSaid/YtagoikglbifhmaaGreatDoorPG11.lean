/- Part 11 of what the last text of this claim is proved by: walks over the program, and the math behind them. Conditions: as each theorem says. -/
import Derived.Test.YtagoikglbifhmaaGreatDoorPG10
import Derived.Test.YtagoikglbifhmaaGreatDoorProg
namespace Go.Proofs.YtagoikglbifhmaaGreatDoor
open Go.RowKit
inductive Vl.Tx : Vl → Prop where
  | mk (v : Vl) : v.text.length ≤ 400 → v.rest.length ≤ 400 → (∀ x ∈ rkids v, Tx x) → Tx v
theorem Vl.Tx.texts {v : Vl} (h : v.Tx) : v.text.length ≤ 400 ∧ v.rest.length ≤ 400 := by
  cases h
  exact ⟨‹_›, ‹_›⟩
theorem Vl.Tx.kid {v x : Vl} (h : v.Tx) (hx : x ∈ rkids v) : x.Tx := by
  cases h with
  | mk v a b c => exact c x hx
theorem kids_mem {v x : Vl} : x ∈ rkids v ↔ x ∈ gkids v := by
  unfold rkids gkids gpairs
  simp only [List.mem_append]
  constructor
  · rintro ((h | h) | h)
    · exact .inr (.inl h)
    · exact .inl h
    · exact .inr (.inr h)
  · rintro (h | h | h)
    · exact .inl (.inr h)
    · exact .inl (.inl h)
    · exact .inr h
theorem Small.tx : ∀ {d : Nat} {v : Vl}, Small d v → v.Tx
  | 0, _, h => by cases h
  | d + 1, v, h => by
    obtain ⟨h1, h2, h3⟩ := h.parts
    exact .mk v h1 h2 fun x hx => (h3 x (kids_mem.1 hx)).tx
theorem hz_r {a : Bool} {k : Nat} (h : (a && decide ((0 : Int) < (k : Int))) = true) : (0 : Int) ≤ (k : Int) - 1 := by
  have := of_decide_eq_true (gr h)
  omega
theorem hz_l {a : Bool} {k : Nat} (h : (decide ((0 : Int) < (k : Int)) && a) = true) : (0 : Int) ≤ (k : Int) - 1 := by
  have := of_decide_eq_true (gl h)
  omega
theorem not_t {b : Bool} (h : (!b) = true) : b = false := by cases b <;> first | rfl | cases h
theorem not_f {b : Bool} (h : (!b) = false) : b = true := by cases b <;> first | rfl | cases h
theorem prev_at {α : Type} {l : List α} {k : Nat} (h : k < l.length) : ∃ x, l[((k : Int) - 1).toNat]? = some x := ⟨_, List.getElem?_eq_getElem (by omega)⟩
def prevF (fs : List (Int × Vl)) (k : Nat) : Int := if k = 0 then 0 else ((fs[((k : Int) - 1).toNat]?).getD (0, .mk 0 0 [] [] [] [] [])).1
theorem prevF_next {fs : List (Int × Vl)} {k : Nat} {x : Int × Vl} (h : fs[k]? = some x) : prevF fs (k + 1) = x.1 := by
  unfold prevF
  rw [if_neg (by omega), show (((k + 1 : Nat) : Int) - 1).toNat = k by omega, h]
  rfl
theorem prevF_at {fs : List (Int × Vl)} {k : Nat} {p : Int × Vl} (h : fs[((k : Int) - 1).toNat]? = some p) : prevF fs k = if k = 0 then 0 else p.1 := by
  unfold prevF
  rw [h]
  rfl
def okP : Option Vl → Vl → Bool
  | none, _ => true
  | some q, k => decide (q.kind = k.kind) && decide (vcmp q k < 0)
theorem pright_cons (o : Option Vl) (x : Vl × Vl) (ps : List (Vl × Vl)) : pright o (x :: ps) = (decide (x.1.kind ≤ 2) && (vone x.1 && vright x.1) && (vone x.2 && vright x.2) && okP o x.1 && pright (some x.1) ps) := by
  obtain ⟨k, x⟩ := x
  cases o <;> simp only [pright, okP, Bool.and_assoc]
theorem pright_nil (o : Option Vl) : pright o [] = true := by cases o <;> simp [pright]
def prevP (ps : List (Vl × Vl)) (k : Nat) : Option Vl := if k = 0 then none else (ps[((k : Int) - 1).toNat]?).map (·.1)
theorem prevP_next {ps : List (Vl × Vl)} {k : Nat} {x : Vl × Vl} (h : ps[k]? = some x) : prevP ps (k + 1) = some x.1 := by
  unfold prevP
  rw [if_neg (by omega), show (((k + 1 : Nat) : Int) - 1).toNat = k by omega, h]
  rfl
theorem prevP_at {ps : List (Vl × Vl)} {k : Nat} {p : Vl × Vl} (h : ps[((k : Int) - 1).toNat]? = some p) : prevP ps k = if k = 0 then none else some p.1 := by
  unfold prevP
  rw [h]
  rfl
set_option maxRecDepth 100000 in
theorem single_of (v : Vl) (hR : EF Tryz.prog [] 68 [.many (vd v)] (.part (tP (vright v)))) : EF Tryz.prog [] 82 [.many (vd v)] (.part (tP (vone v && vright v))) := by
  refine ef_enter 20 Tryz.func82 rfl rfl rfl fun w D => ?_
  try refine e_fl ?_
  refine e_list ?_
  refine e_box 1 rfl rfl rfl rfl (kn rfl) rfl rfl rfl rfl ?_
  refine l_as ?_
  refine e_nil ?_
  try refine e_fl ?_
  refine e_plain (w_op rfl rfl rfl (s_faddr_box rfl (kn rfl) off_40_0) (w_op rfl rfl rfl (s_load1_box rfl (kn rfl) rfl rfl one_3) (w_op rfl rfl rfl (s_bin rfl (kn rfl) (kn rfl) v_eql) (w_mv rfl rfl rfl rfl rfl (Walk.gd _ rfl rfl rfl (fun h => s_faddr_box rfl (kn rfl) off_40_0) (Walk.gd _ rfl rfl rfl (fun h => s_load1_box rfl (kn_opt rfl h) rfl rfl one_3) (Walk.gd _ rfl rfl rfl (fun h => s_bin rfl (kn_opt rfl h) (kn rfl) v_eql) (w_op rfl rfl rfl (s_or rfl (kn rfl) (fun hb => kn_opt rfl hb)) (w_mv rfl rfl rfl rfl rfl (Walk.gd _ rfl rfl rfl (fun h => s_faddr_box rfl (kn rfl) off_40_0) (Walk.gd _ rfl rfl rfl (fun h => s_load1_box rfl (kn_opt rfl h) rfl rfl one_3) (Walk.gd _ rfl rfl rfl (fun h => s_bin rfl (kn_opt rfl h) (kn rfl) v_eql) (w_op rfl rfl rfl (s_or rfl (kn rfl) (fun hb => kn_opt rfl hb)) (w_mv rfl rfl rfl rfl rfl (Walk.gd _ rfl rfl rfl (fun h => s_loadn_box (ds := [_, _, _, _, _, _, _]) 7 rfl (kn rfl) rfl rfl agg_40 sz_40 rfl) (Walk.gd _ rfl rfl rfl (fun h => s_call rfl (by kernel_rfl) (hR) ⟨(kn_opt rfl h), trivial⟩) (w_op rfl rfl rfl (s_and rfl (kn rfl) (fun hb => kn_opt rfl hb)) (w_as rfl rfl rfl rfl rfl .nil)))))))))))))))))) ?_
  try refine e_fl ?_
  exact e_return rfl rfl (.tmp (kn rfl) (.nil)) (Imp.of_eq rfl) rfl
set_option maxRecDepth 100000 in
set_option maxHeartbeats 4000000 in
theorem right_step (v : Vl) (hv : v.Fine) (ht : v.Tx) (hn : vnodes v ≤ 1000000) (ih : ∀ x ∈ rkids v, EF Tryz.prog [] 68 [.many (vd x)] (.part (tP (vright x)))) : EF Tryz.prog [] 68 [.many (vd v)] (.part (tP (vright v))) := by
  have hlen := rkids_len v hn
  have hmax : maxLen ≤ 9223372036854775807 := by decide
  have htr := ht.texts.2
  obtain ⟨a1, a2, a3, a4, a5, a6, a7, a8⟩ := hv.bounds
  have e := vright_eq v
  have ihf : ∀ f ∈ v.fields, f.2 ∈ rkids v := fun f h => by unfold rkids; exact List.mem_append_left _ (List.mem_append_right _ (List.mem_map.2 ⟨f, h, rfl⟩))
  have ihl : ∀ f ∈ v.list, f ∈ rkids v := fun f h => by unfold rkids; exact List.mem_append_left _ (List.mem_append_left _ h)
  have ihp : ∀ p ∈ v.pairs, p.1 ∈ rkids v ∧ p.2 ∈ rkids v := fun p h => by
    unfold rkids gpairs
    exact ⟨List.mem_append_right _ (List.mem_flatMap.2 ⟨p, h, by simp⟩), List.mem_append_right _ (List.mem_flatMap.2 ⟨p, h, by simp⟩)⟩
  refine ef_enter 179 Tryz.func68 rfl rfl rfl fun w D => ?_
  try refine e_fl ?_
  refine e_list ?_
  refine e_box 1 rfl rfl rfl rfl (kn rfl) rfl rfl rfl rfl ?_
  refine l_as ?_
  refine e_nil ?_
  try refine e_fl ?_
  refine e_plain (w_op rfl rfl rfl (s_faddr_box rfl (kn rfl) off_40_0) (w_op rfl rfl rfl (s_load1_box rfl (kn rfl) rfl rfl one_3) (w_op rfl rfl rfl (s_bin rfl (kn rfl) (kn rfl) v_lss) (w_mv rfl rfl rfl rfl rfl (Walk.gd _ rfl rfl rfl (fun h => s_faddr_box rfl (kn rfl) off_40_0) (Walk.gd _ rfl rfl rfl (fun h => s_load1_box rfl (kn_opt rfl h) rfl rfl one_3) (Walk.gd _ rfl rfl rfl (fun h => s_bin rfl (kn_opt rfl h) (kn rfl) v_gtr) (w_op rfl rfl rfl (s_or rfl (kn rfl) (fun hb => kn_opt rfl hb)) .nil)))))))) ?_
  try refine e_fl ?_
  refine e_cond rfl (fun h => ?_) (fun h => ?_)
  · have hv0 : vplain v = false := by
      simp only [Bool.or_eq_true, decide_eq_true_eq] at h
      cases hc : vplain v
      · rfl
      · have := (vplain_iff v).1 hc
        omega
    try refine e_fl ?_
    refine e_plain (w_as rfl rfl rfl rfl rfl .nil) ?_
    try refine e_fl ?_
    exact e_return rfl rfl (.tmp (kn rfl) (.nil)) (Imp.of_eq (by rw [e, hv0]; rfl)) rfl
  simp only [Bool.or_eq_false_iff, decide_eq_false_iff_not] at h
  try refine e_fl ?_
  refine e_plain (w_op rfl rfl rfl (s_faddr_box rfl (kn rfl) off_40_0) (w_op rfl rfl rfl (s_load1_box rfl (kn rfl) rfl rfl one_3) (w_op rfl rfl rfl (s_bin rfl (kn rfl) (kn rfl) v_neq) (w_mv rfl rfl rfl rfl rfl (Walk.gd _ rfl rfl rfl (fun h => s_faddr_box rfl (kn rfl) off_40_1) (Walk.gd _ rfl rfl rfl (fun h => s_load1_box rfl (kn_opt rfl h) rfl rfl one_22) (Walk.gd _ rfl rfl rfl (fun h => s_bin rfl (kn_opt rfl h) (kn rfl) v_neq) (w_op rfl rfl rfl (s_and rfl (kn rfl) (fun hb => kn_opt rfl hb)) (w_mv rfl rfl rfl rfl rfl (Walk.gd _ rfl rfl rfl (fun h => s_faddr_box rfl (kn rfl) off_40_0) (Walk.gd _ rfl rfl rfl (fun h => s_load1_box rfl (kn_opt rfl h) rfl rfl one_3) (Walk.gd _ rfl rfl rfl (fun h => s_bin rfl (kn_opt rfl h) (kn rfl) v_neq) (Walk.gd _ rfl rfl rfl (fun h => s_move rfl (kn_opt rfl h)) (Walk.gd _ rfl rfl rfl (fun h => s_faddr_box rfl (kn rfl) off_40_2) (Walk.gd _ rfl rfl rfl (fun h => s_load1_box rfl (kn_opt rfl h) rfl rfl one_9) (Walk.gd _ rfl rfl rfl (fun h => s_slen rfl (kn_opt rfl h) str_9) (Walk.gd _ rfl rfl rfl (fun h => s_bin rfl (kn_opt rfl h) (kn rfl) v_gtr) (Walk.gd _ rfl rfl rfl (fun h => s_and rfl (kn_opt rfl h) (fun hb => kn_opt rfl (gb h hb))) (w_op rfl rfl rfl (s_or rfl (kn rfl) (fun hb => kn_opt rfl hb)) (w_mv rfl rfl rfl rfl rfl (Walk.gd _ rfl rfl rfl (fun h => s_faddr_box rfl (kn rfl) off_40_0) (Walk.gd _ rfl rfl rfl (fun h => s_load1_box rfl (kn_opt rfl h) rfl rfl one_3) (Walk.gd _ rfl rfl rfl (fun h => s_bin rfl (kn_opt rfl h) (kn rfl) v_neq) (Walk.gd _ rfl rfl rfl (fun h => s_move rfl (kn_opt rfl h)) (Walk.gd _ rfl rfl rfl (fun h => s_faddr_box rfl (kn rfl) off_40_3) (Walk.gd _ rfl rfl rfl (fun h => s_load1_box rfl (kn_opt rfl h) rfl rfl one_36) (Walk.gd _ rfl rfl rfl (fun h => s_len rfl (kn_opt rfl h) sle_36) (Walk.gd _ rfl rfl rfl (fun h => s_faddr_box rfl (kn rfl) off_40_4) (Walk.gd _ rfl rfl rfl (fun h => s_load1_box rfl (kn_opt rfl h) rfl rfl one_9) (Walk.gd _ rfl rfl rfl (fun h => s_slen rfl (kn_opt rfl h) str_9) (Walk.gd _ rfl rfl rfl (fun h => s_bin rfl (kn_opt rfl h) (kn_opt rfl h) (v_add64 (by first | omega | (dsimp only; omega) | omega))) (Walk.gd _ rfl rfl rfl (fun h => s_bin rfl (kn_opt rfl h) (kn rfl) v_gtr) (Walk.gd _ rfl rfl rfl (fun h => s_and rfl (kn_opt rfl h) (fun hb => kn_opt rfl (gb h hb))) (w_op rfl rfl rfl (s_or rfl (kn rfl) (fun hb => kn_opt rfl hb)) (w_mv rfl rfl rfl rfl rfl (Walk.gd _ rfl rfl rfl (fun h => s_faddr_box rfl (kn rfl) off_40_0) (Walk.gd _ rfl rfl rfl (fun h => s_load1_box rfl (kn_opt rfl h) rfl rfl one_3) (Walk.gd _ rfl rfl rfl (fun h => s_bin rfl (kn_opt rfl h) (kn rfl) v_eql) (Walk.gd _ rfl rfl rfl (fun h => s_faddr_box rfl (kn rfl) off_40_5) (Walk.gd _ rfl rfl rfl (fun h => s_load1_box rfl (kn_opt rfl h) rfl rfl one_37) (Walk.gd _ rfl rfl rfl (fun h => s_len rfl (kn_opt rfl h) sle_37) (Walk.gd _ rfl rfl rfl (fun h => s_bin rfl (kn_opt rfl h) (kn rfl) v_gtr) (Walk.gd _ rfl rfl rfl (fun h => s_bin rfl (kn_opt rfl h) (kn_opt rfl h) (v_bne bool_4)) (w_op rfl rfl rfl (s_or rfl (kn rfl) (fun hb => kn_opt rfl hb)) (w_mv rfl rfl rfl rfl rfl (Walk.gd _ rfl rfl rfl (fun h => s_faddr_box rfl (kn rfl) off_40_0) (Walk.gd _ rfl rfl rfl (fun h => s_load1_box rfl (kn_opt rfl h) rfl rfl one_3) (Walk.gd _ rfl rfl rfl (fun h => s_bin rfl (kn_opt rfl h) (kn rfl) v_eql) (Walk.gd _ rfl rfl rfl (fun h => s_faddr_box rfl (kn rfl) off_40_6) (Walk.gd _ rfl rfl rfl (fun h => s_load1_box rfl (kn_opt rfl h) rfl rfl one_38) (Walk.gd _ rfl rfl rfl (fun h => s_len rfl (kn_opt rfl h) sle_38) (Walk.gd _ rfl rfl rfl (fun h => s_bin rfl (kn_opt rfl h) (kn rfl) v_gtr) (Walk.gd _ rfl rfl rfl (fun h => s_bin rfl (kn_opt rfl h) (kn_opt rfl h) (v_bne bool_4)) (w_op rfl rfl rfl (s_or rfl (kn rfl) (fun hb => kn_opt rfl hb)) .nil)))))))))))))))))))))))))))))))))))))))))))))))))))))) ?_
  try refine e_fl ?_
  refine e_cond rfl (fun h2 => ?_) (fun h2 => ?_)
  · have hv0 : vplain v = false := by
      cases hc : vplain v
      · rfl
      · simp only [vplain, Bool.and_eq_true, Bool.or_eq_true, decide_eq_true_eq, beq_iff_eq, decide_eq_decide] at hc
        simp only [Bool.or_eq_true, Bool.and_eq_true, Bool.not_eq_true', decide_eq_true_eq, decide_eq_false_iff_not, bne_iff_ne, ne_eq, decide_eq_decide] at h2
        omega
    try refine e_fl ?_
    refine e_plain (w_as rfl rfl rfl rfl rfl .nil) ?_
    try refine e_fl ?_
    exact e_return rfl rfl (.tmp (kn rfl) (.nil)) (Imp.of_eq (by rw [e, hv0]; rfl)) rfl
  have hv1 : vplain v = true := by
    simp only [Bool.or_eq_false_iff, Bool.and_eq_false_iff, Bool.not_eq_false', decide_eq_true_eq, decide_eq_false_iff_not, bne_eq_false_iff_eq, decide_eq_decide] at h2
    simp only [vplain, Bool.and_eq_true, Bool.or_eq_true, decide_eq_true_eq, beq_iff_eq, decide_eq_decide]
    omega
  rw [hv1, Bool.true_and] at e
  clear hv1 h h2
  try refine e_fl ?_
  refine e_plain (w_op rfl rfl rfl (s_faddr_box rfl (kn rfl) off_40_3) (w_op rfl rfl rfl (s_load1_box rfl (kn rfl) rfl rfl one_36) (w_op rfl rfl rfl (s_len rfl (kn rfl) sle_36) (w_mv rfl rfl rfl rfl rfl .nil)))) ?_
  try refine e_fl ?_
  refine e_loop (ι := { k : Nat // k ≤ v.fields.length ∧ fright (prevF v.fields k) (v.fields.drop k) = fright 0 v.fields })
    (fun k => [(1, .box 1 0), (72, .part (.one (.row 8 v.fields.length (v.fields.flatMap fieldDats)))), (73, .is (.int .i64 (v.fields.length : Int))), (74, .is (.int .i64 (k.1 : Int)))])
    (fun _ => [(1, ⟨40, bcs (vd v)⟩)]) (fun _ => []) (fun k => v.fields.length - k.1) ⟨0, by omega, by simp [prevF]⟩
    (fun K => e_sub ⟨s_t, s_t, s_t, s_t, trivial⟩ ⟨s_b, trivial⟩ trivial) ?_
  rintro ⟨k, hk, hw⟩
  dsimp only at hk hw ⊢
  try refine e_fl ?_
  refine e_plain (w_op rfl rfl rfl (s_bin rfl (kn rfl) (kn rfl) v_lss) .nil) ?_
  try refine e_fl ?_
  refine e_cond rfl (fun h => ?_) (fun h => ?_)
  · have hlt : k < v.fields.length := by have := of_decide_eq_true h; omega
    obtain ⟨x, hx⟩ : ∃ x, v.fields[k]? = some x := ⟨_, List.getElem?_eq_getElem hlt⟩
    obtain ⟨p, hp⟩ := prev_at hlt
    have hpf := prevF_at hp
    have hnx := prevF_next hx
    rw [drop_cons hx, fright] at hw
    have hwx : (decide (1 ≤ x.1) && decide (x.1 ≤ 536870911) && decide (prevF v.fields k < x.1) && decide (x.2.kind ≠ 0) && vright x.2 && fright x.1 (v.fields.drop (k + 1))) = fright 0 v.fields := hw
    clear hw
    try refine e_fl ?_
    refine e_list ?_
    refine l_mv ?_
    refine l_op (s_index rfl (kn rfl) (kn rfl) (by omega) hx fieldDats_len sle_36 esz_36 (fieldDats_vd x)) ?_
    refine l_op (s_loadn_ref rfl (kn rfl) agg_80 sz_80) ?_
    refine e_alloc 4 [.is (.int .i64 0), .is (.int .i64 0), .is (.int .u64 0), .is (.string ⟨#[]⟩), .is (.slice none 0 0), .is (.string ⟨#[]⟩), .is (.slice none 0 0), .is (.slice none 0 0)] rfl rfl rfl rfl zr_80 (fun w D M V => ⟨rfl, fun j x v h1 h2 => cfit_is _ h1 h2 rfl⟩) rfl rfl rfl rfl ?_
    refine l_as ?_
    refine e_storew rfl rfl rfl (kn rfl) rfl (kn rfl) rfl rfl sz_80 ?_
    refine e_nil ?_
    try refine e_fl ?_
    refine e_draw mixed (by kernel_rfl) (w_op rfl rfl rfl (s_faddr_box rfl (kn rfl) off_80_0) (w_op rfl rfl rfl (s_load1_box rfl (kn rfl) rfl rfl one_3) (w_op rfl rfl rfl (s_bin rfl (kn rfl) (kn rfl) v_lss) (w_mv rfl rfl rfl rfl rfl (Walk.gd _ rfl rfl rfl (fun h => s_faddr_box rfl (kn rfl) off_80_0) (Walk.gd _ rfl rfl rfl (fun h => s_load1_box rfl (kn_opt rfl h) rfl rfl one_3) (Walk.gd _ rfl rfl rfl (fun h => s_bin rfl (kn_opt rfl h) (kn rfl) v_gtr) (w_op rfl rfl rfl (s_or rfl (kn rfl) (fun hb => kn_opt rfl hb)) (w_mv rfl rfl rfl rfl rfl (Walk.gd _ rfl rfl rfl (fun h => s_move rfl (kn rfl)) (Walk.gd _ rfl rfl rfl (fun h => s_bin rfl (kn_opt rfl h) (kn rfl) v_gtr) (Walk.gd _ rfl rfl rfl (fun h => s_move rfl (kn_opt rfl h)) (Walk.gd _ rfl rfl rfl (fun h => s_faddr_box rfl (kn rfl) off_40_3) (Walk.gd _ rfl rfl rfl (fun h => s_load1_box rfl (kn_opt rfl h) rfl rfl one_36) (Walk.gd _ rfl rfl rfl (fun h => s_move rfl (kn rfl)) (Walk.gd _ rfl rfl rfl (fun h => s_bin rfl (kn_opt rfl h) (kn rfl) (v_sub64 (by first | omega | (dsimp only; omega) | omega))) (Walk.gd _ rfl rfl rfl (fun h => s_index rfl (kn_opt rfl h) (kn_opt rfl h) (hz_r h) hp fieldDats_len sle_36 esz_36 (fieldDats_vd p)) (Walk.gd _ rfl rfl rfl (fun h => s_faddr_ref rfl (kn_opt rfl h) off_80_0) (Walk.gd _ rfl rfl rfl (fun h => s_load1_ref rfl (kn_opt rfl h) one_3) (Walk.gd _ rfl rfl rfl (fun h => s_faddr_box rfl (kn rfl) off_80_0) (Walk.gd _ rfl rfl rfl (fun h => s_load1_box rfl (kn_opt rfl h) rfl rfl one_3) (Walk.gd _ rfl rfl rfl (fun h => s_bin rfl (kn_opt rfl h) (kn_opt rfl h) v_geq) (Walk.gd _ rfl rfl rfl (fun h => s_and rfl (kn_opt rfl h) (fun hb => kn_opt rfl (gb h hb))) (w_op rfl rfl rfl (s_or rfl (kn rfl) (fun hb => kn_opt rfl hb)) (w_mv rfl rfl rfl rfl rfl (Walk.gd _ rfl rfl rfl (fun h => s_faddr_box rfl (kn rfl) off_80_1) (Walk.gd _ rfl rfl rfl (fun h => s_faddr_box rfl (kn_opt rfl h) off_40_0) (Walk.gd _ rfl rfl rfl (fun h => s_load1_box rfl (kn_opt rfl h) rfl rfl one_3) (Walk.gd _ rfl rfl rfl (fun h => s_bin rfl (kn_opt rfl h) (kn rfl) v_eql) (w_op rfl rfl rfl (s_or rfl (kn rfl) (fun hb => kn_opt rfl hb)) (w_mv rfl rfl rfl rfl rfl (Walk.gd _ rfl rfl rfl (fun h => s_faddr_box rfl (kn rfl) off_80_1) (Walk.gd _ rfl rfl rfl (fun h => s_loadn_box (ds := [_, _, _, _, _, _, _]) 7 rfl (kn_opt rfl h) rfl rfl agg_40 sz_40 rfl) (Walk.gd _ rfl rfl rfl (fun h => s_call rfl (by kernel_rfl) (ih x.2 (ihf x (List.mem_of_getElem? hx))) ⟨(kn_opt rfl h), trivial⟩) (Walk.gd _ rfl rfl rfl (fun h => s_not rfl (kn_opt rfl h)) (w_op rfl rfl rfl (s_or rfl (kn rfl) (fun hb => kn_opt rfl hb)) .nil)))))))))))))))))))))))))))))))))))) ?_
    try refine e_fl ?_
    refine e_cond rfl (fun h1 => ?_) (fun h1 => ?_)
    · have hf : fright 0 v.fields = false := by
        rw [← hwx, hpf]
        simp only [Bool.or_eq_true, Bool.and_eq_true, Bool.not_eq_true', decide_eq_true_eq] at h1
        cases hr : vright x.2
        · simp
        · rw [hr] at h1
          simp only [Bool.true_eq_false, or_false] at h1
          simp only [Bool.and_eq_false_iff, decide_eq_false_iff_not]
          refine .inl (.inl ?_)
          by_cases hk0 : k = 0
          · rw [if_pos hk0]; omega
          · rw [if_neg hk0]; omega
      try refine e_fl ?_
      refine e_plain (w_as rfl rfl rfl rfl rfl .nil) ?_
      try refine e_fl ?_
      exact e_return rfl rfl (.tmp (kn rfl) (.nil)) (Imp.of_eq (by rw [e, hf]; rfl)) rfl
    have hf : fright x.1 (v.fields.drop (k + 1)) = fright 0 v.fields := by
      rw [← hwx, hpf]
      simp only [Bool.or_eq_false_iff, Bool.and_eq_false_iff, Bool.not_eq_false', decide_eq_false_iff_not] at h1
      obtain ⟨⟨⟨⟨g1, g2⟩, g3⟩, g4⟩, g5⟩ := h1
      rw [g5, decide_eq_true (show 1 ≤ x.1 by omega), decide_eq_true (show x.1 ≤ 536870911 by omega), decide_eq_true (show x.2.kind ≠ 0 from g4), decide_eq_true (show (if k = 0 then 0 else p.1) < x.1 by
        by_cases hk0 : k = 0
        · rw [if_pos hk0]; omega
        · rw [if_neg hk0]; omega)]
      rfl
    try refine e_fl ?_
    refine e_plain (w_op rfl rfl rfl (s_bin rfl (kn rfl) (kn rfl) (v_add64 (by first | omega | (dsimp only; omega) | omega))) (w_mv rfl rfl rfl rfl rfl .nil)) ?_
    try refine e_fl ?_
    refine e_again ⟨k + 1, by omega, by rw [hnx]; exact hf⟩ (by dsimp only; omega) (fun K => e_sub ⟨s_t, s_t, s_t, s_t, trivial⟩ ⟨s_b, trivial⟩ trivial)
  obtain rfl : k = v.fields.length := by have := of_decide_eq_false h; omega
  rw [List.drop_length, fright] at hw
  rw [← hw, Bool.true_and] at e
  clear hw
  try refine e_fl ?_
  refine e_plain (w_op rfl rfl rfl (s_faddr_box rfl (kn rfl) off_40_5) (w_op rfl rfl rfl (s_load1_box rfl (kn rfl) rfl rfl one_37) (w_op rfl rfl rfl (s_len rfl (kn rfl) sle_37) (w_mv rfl rfl rfl rfl rfl .nil)))) ?_
  try refine e_fl ?_
  refine e_loop (ι := { k : Nat // k ≤ v.list.length ∧ lright (v.list.drop k) = lright v.list })
    (fun k => [(1, .box 1 0), (117, .part (lP v.list)), (118, .is (.int .i64 (v.list.length : Int))), (119, .is (.int .i64 (k.1 : Int)))])
    (fun _ => [(1, ⟨40, bcs (vd v)⟩)]) (fun _ => []) (fun k => v.list.length - k.1) ⟨0, by omega, by simp⟩
    (fun K => e_sub ⟨s_t, s_t, s_t, s_t, trivial⟩ ⟨s_b, trivial⟩ trivial) ?_
  rintro ⟨k, hk, hw⟩
  dsimp only at hk hw ⊢
  try refine e_fl ?_
  refine e_plain (w_op rfl rfl rfl (s_bin rfl (kn rfl) (kn rfl) v_lss) .nil) ?_
  try refine e_fl ?_
  refine e_cond rfl (fun h => ?_) (fun h => ?_)
  · have hlt : k < v.list.length := by have := of_decide_eq_true h; omega
    obtain ⟨x, hx⟩ : ∃ x, v.list[k]? = some x := ⟨_, List.getElem?_eq_getElem hlt⟩
    rw [drop_cons hx, lright] at hw
    try refine e_fl ?_
    refine e_list ?_
    refine l_op (s_index rfl (kn rfl) (kn rfl) (by omega) hx Vl.dats_len sle_37 esz_37 (dats_vd x)) ?_
    refine l_op (s_loadn_ref rfl (kn rfl) agg_40 sz_40) ?_
    refine e_alloc 6 [.is (.int .i64 0), .is (.int .u64 0), .is (.string ⟨#[]⟩), .is (.slice none 0 0), .is (.string ⟨#[]⟩), .is (.slice none 0 0), .is (.slice none 0 0)] rfl rfl rfl rfl zr_40 (fun w D M V => ⟨rfl, fun j x v h1 h2 => cfit_is _ h1 h2 rfl⟩) rfl rfl rfl rfl ?_
    refine e_storew rfl rfl rfl (kn rfl) rfl (kn rfl) rfl rfl sz_40 ?_
    refine e_nil ?_
    try refine e_fl ?_
    refine e_plain (w_op rfl rfl rfl (s_loadn_box (ds := [_, _, _, _, _, _, _]) 7 rfl (kn rfl) rfl rfl agg_40 sz_40 rfl) (w_op rfl rfl rfl (s_call rfl (by kernel_rfl) (single_of x (ih x (ihl x (List.mem_of_getElem? hx)))) ⟨(kn rfl), trivial⟩) (w_op rfl rfl rfl (s_not rfl (kn rfl)) .nil))) ?_
    try refine e_fl ?_
    refine e_cond rfl (fun h1 => ?_) (fun h1 => ?_)
    · have hf : lright v.list = false := by
        rw [← hw, not_t h1]
        rfl
      try refine e_fl ?_
      refine e_plain (w_as rfl rfl rfl rfl rfl .nil) ?_
      try refine e_fl ?_
      exact e_return rfl rfl (.tmp (kn rfl) (.nil)) (Imp.of_eq (by rw [e, hf]; rfl)) rfl
    rw [not_f h1, Bool.true_and] at hw
    try refine e_fl ?_
    refine e_plain (w_op rfl rfl rfl (s_bin rfl (kn rfl) (kn rfl) (v_add64 (by first | omega | (dsimp only; omega) | omega))) (w_mv rfl rfl rfl rfl rfl .nil)) ?_
    try refine e_fl ?_
    refine e_again ⟨k + 1, by omega, hw⟩ (by dsimp only; omega) (fun K => e_sub ⟨s_t, s_t, s_t, s_t, trivial⟩ ⟨s_b, trivial⟩ trivial)
  obtain rfl : k = v.list.length := by have := of_decide_eq_false h; omega
  rw [List.drop_length, lright] at hw
  rw [← hw, Bool.true_and] at e
  clear hw
  try refine e_fl ?_
  refine e_plain (w_op rfl rfl rfl (s_faddr_box rfl (kn rfl) off_40_6) (w_op rfl rfl rfl (s_load1_box rfl (kn rfl) rfl rfl one_38) (w_op rfl rfl rfl (s_len rfl (kn rfl) sle_38) (w_mv rfl rfl rfl rfl rfl .nil)))) ?_
  try refine e_fl ?_
  refine e_loop (ι := { k : Nat // k ≤ v.pairs.length ∧ pright (prevP v.pairs k) (v.pairs.drop k) = pright none v.pairs ∧ ∀ (i : Nat) p q, i < k → v.pairs[i]? = some p → v.pairs[0]? = some q → p.1.kind = q.1.kind })
    (fun k => [(1, .box 1 0), (128, .part (.one (.row 14 v.pairs.length (v.pairs.flatMap pairDats)))), (129, .is (.int .i64 (v.pairs.length : Int))), (130, .is (.int .i64 (k.1 : Int)))])
    (fun _ => [(1, ⟨40, bcs (vd v)⟩)]) (fun _ => []) (fun k => v.pairs.length - k.1) ⟨0, by omega, by simp [prevP], fun i p q h => by omega⟩
    (fun K => e_sub ⟨s_t, s_t, s_t, s_t, trivial⟩ ⟨s_b, trivial⟩ trivial) ?_
  rintro ⟨k, hk, hw, hs⟩
  dsimp only at hk hw hs ⊢
  try refine e_fl ?_
  refine e_plain (w_op rfl rfl rfl (s_bin rfl (kn rfl) (kn rfl) v_lss) .nil) ?_
  try refine e_fl ?_
  refine e_cond rfl (fun h => ?_) (fun h => ?_)
  · have hlt : k < v.pairs.length := by have := of_decide_eq_true h; omega
    obtain ⟨x, hx⟩ : ∃ x, v.pairs[k]? = some x := ⟨_, List.getElem?_eq_getElem hlt⟩
    obtain ⟨p, hp⟩ := prev_at hlt
    obtain ⟨q, hq⟩ : ∃ q, v.pairs[0]? = some q := ⟨_, List.getElem?_eq_getElem (by omega)⟩
    have hpf := prevP_at hp
    have hnx := prevP_next hx
    have hmx := List.mem_of_getElem? hx
    have hmp := List.mem_of_getElem? hp
    rw [drop_cons hx, pright_cons] at hw
    try refine e_fl ?_
    refine e_list ?_
    refine l_mv ?_
    refine l_op (s_index rfl (kn rfl) (kn rfl) (by omega) hx pairDats_len sle_38 esz_38 (pairDats_vd x)) ?_
    refine l_op (s_loadn_ref rfl (kn rfl) agg_84 sz_84) ?_
    refine e_alloc 8 [.is (.int .i64 0), .is (.int .u64 0), .is (.string ⟨#[]⟩), .is (.slice none 0 0), .is (.string ⟨#[]⟩), .is (.slice none 0 0), .is (.slice none 0 0), .is (.int .i64 0), .is (.int .u64 0), .is (.string ⟨#[]⟩), .is (.slice none 0 0), .is (.string ⟨#[]⟩), .is (.slice none 0 0), .is (.slice none 0 0)] rfl rfl rfl rfl zr_84 (fun w D M V => ⟨rfl, fun j x v h1 h2 => cfit_is _ h1 h2 rfl⟩) rfl rfl rfl rfl ?_
    refine l_as ?_
    refine e_storew rfl rfl rfl (kn rfl) rfl (kn rfl) rfl rfl sz_84 ?_
    refine e_nil ?_
    try refine e_fl ?_
    refine e_plain (w_op rfl rfl rfl (s_faddr_box rfl (kn rfl) off_84_0) (w_op rfl rfl rfl (s_faddr_box rfl (kn rfl) off_40_0) (w_op rfl rfl rfl (s_load1_box rfl (kn rfl) rfl rfl one_3) (w_op rfl rfl rfl (s_bin rfl (kn rfl) (kn rfl) v_gtr) (w_mv rfl rfl rfl rfl rfl (Walk.gd _ rfl rfl rfl (fun h => s_faddr_box rfl (kn rfl) off_84_0) (Walk.gd _ rfl rfl rfl (fun h => s_loadn_box (ds := [_, _, _, _, _, _, _]) 7 rfl (kn_opt rfl h) rfl rfl agg_40 sz_40 rfl) (Walk.gd _ rfl rfl rfl (fun h => s_call rfl (by kernel_rfl) (single_of x.1 (ih x.1 (ihp x hmx).1)) ⟨(kn_opt rfl h), trivial⟩) (Walk.gd _ rfl rfl rfl (fun h => s_not rfl (kn_opt rfl h)) (w_op rfl rfl rfl (s_or rfl (kn rfl) (fun hb => kn_opt rfl hb)) (w_mv rfl rfl rfl rfl rfl (Walk.gd _ rfl rfl rfl (fun h => s_faddr_box rfl (kn rfl) off_84_1) (Walk.gd _ rfl rfl rfl (fun h => s_loadn_box (ds := [_, _, _, _, _, _, _]) 7 rfl (kn_opt rfl h) rfl rfl agg_40 sz_40 rfl) (Walk.gd _ rfl rfl rfl (fun h => s_call rfl (by kernel_rfl) (single_of x.2 (ih x.2 (ihp x hmx).2)) ⟨(kn_opt rfl h), trivial⟩) (Walk.gd _ rfl rfl rfl (fun h => s_not rfl (kn_opt rfl h)) (w_op rfl rfl rfl (s_or rfl (kn rfl) (fun hb => kn_opt rfl hb)) .nil)))))))))))))))) ?_
    try refine e_fl ?_
    refine e_cond rfl (fun h1 => ?_) (fun h1 => ?_)
    · have hf : pright none v.pairs = false := by
        rw [← hw]
        simp only [Bool.or_eq_true, Bool.not_eq_true', decide_eq_true_eq] at h1
        rcases h1 with (h1 | h1) | h1
        · rw [decide_eq_false (show ¬ x.1.kind ≤ 2 by omega)]; rfl
        · rw [h1]; simp
        · rw [h1]; simp
      try refine e_fl ?_
      refine e_plain (w_as rfl rfl rfl rfl rfl .nil) ?_
      try refine e_fl ?_
      exact e_return rfl rfl (.tmp (kn rfl) (.nil)) (Imp.of_eq (by rw [e, hf]; rfl)) rfl
    simp only [Bool.or_eq_false_iff, Bool.not_eq_false', decide_eq_false_iff_not] at h1
    obtain ⟨⟨g1, g2⟩, g3⟩ := h1
    rw [g2, g3, decide_eq_true (show x.1.kind ≤ 2 by omega), hpf] at hw
    try refine e_fl ?_
    refine e_draw mixed (by kernel_rfl) (w_mv rfl rfl rfl rfl rfl (w_op rfl rfl rfl (s_bin rfl (kn rfl) (kn rfl) v_gtr) (w_mv rfl rfl rfl rfl rfl (Walk.gd _ rfl rfl rfl (fun h => s_faddr_box rfl (kn rfl) off_40_6) (Walk.gd _ rfl rfl rfl (fun h => s_load1_box rfl (kn_opt rfl h) rfl rfl one_38) (Walk.gd _ rfl rfl rfl (fun h => s_index rfl (kn_opt rfl h) (kn rfl) (by omega) hq pairDats_len sle_38 esz_38 (pairDats_vd q)) (Walk.gd _ rfl rfl rfl (fun h => s_faddr_ref rfl (kn_opt rfl h) off_84_0) (Walk.gd _ rfl rfl rfl (fun h => s_faddr_ref rfl (kn_opt rfl h) off_40_0) (Walk.gd _ rfl rfl rfl (fun h => s_load1_ref rfl (kn_opt rfl h) one_3) (Walk.gd _ rfl rfl rfl (fun h => s_faddr_box rfl (kn rfl) off_84_0) (Walk.gd _ rfl rfl rfl (fun h => s_faddr_box rfl (kn_opt rfl h) off_40_0) (Walk.gd _ rfl rfl rfl (fun h => s_load1_box rfl (kn_opt rfl h) rfl rfl one_3) (Walk.gd _ rfl rfl rfl (fun h => s_bin rfl (kn_opt rfl h) (kn_opt rfl h) v_neq) (Walk.gd _ rfl rfl rfl (fun h => s_move rfl (kn_opt rfl h)) (Walk.gd _ rfl rfl rfl (fun h => s_faddr_box rfl (kn rfl) off_40_6) (Walk.gd _ rfl rfl rfl (fun h => s_load1_box rfl (kn_opt rfl h) rfl rfl one_38) (Walk.gd _ rfl rfl rfl (fun h => s_move rfl (kn rfl)) (Walk.gd _ rfl rfl rfl (fun h => s_bin rfl (kn_opt rfl h) (kn rfl) (v_sub64 (by first | omega | (dsimp only; omega) | omega))) (Walk.gd _ rfl rfl rfl (fun h => s_index rfl (kn_opt rfl h) (kn_opt rfl h) (hz_l h) hp pairDats_len sle_38 esz_38 (pairDats_vd p)) (Walk.gd _ rfl rfl rfl (fun h => s_faddr_ref rfl (kn_opt rfl h) off_84_0) (Walk.gd _ rfl rfl rfl (fun h => s_loadk_ref 7 rfl (kn_opt rfl h) agg_40 sz_40 (Nat.le_of_ble_eq_true rfl)) (Walk.gd _ rfl rfl rfl (fun h => s_faddr_box rfl (kn rfl) off_84_0) (Walk.gd _ rfl rfl rfl (fun h => s_loadn_box (ds := [_, _, _, _, _, _, _]) 7 rfl (kn_opt rfl h) rfl rfl agg_40 sz_40 rfl) (Walk.gd _ rfl rfl rfl (fun h => s_call rfl (by kernel_rfl) (cmp_ef p.1 (hv.pair hmp).1 x.1 (hv.pair hmx).1) ⟨(kn_opt rfl h), ⟨(kn_opt rfl h), trivial⟩⟩) (Walk.gd _ rfl rfl rfl (fun h => s_bin rfl (kn_opt rfl h) (kn rfl) v_geq) (Walk.gd _ rfl rfl rfl (fun h => s_or rfl (kn_opt rfl h) (fun hb => kn_opt rfl (gb h hb))) (w_op rfl rfl rfl (s_and rfl (kn rfl) (fun hb => kn_opt rfl hb)) .nil))))))))))))))))))))))))))) ?_
    try refine e_fl ?_
    refine e_cond rfl (fun h2 => ?_) (fun h2 => ?_)
    · have hf : pright none v.pairs = false := by
        simp only [Bool.or_eq_true, Bool.and_eq_true, Bool.not_eq_true', decide_eq_true_eq, decide_eq_false_iff_not] at h2
        obtain ⟨h3, h4⟩ := h2
        have hk0 : ¬ k = 0 := by omega
        have hpq := hs ((k : Int) - 1).toNat p q (by omega) hp hq
        rw [← hw, if_neg hk0, okP]
        rcases h4 with h4 | h4
        · rw [decide_eq_false (show ¬ p.1.kind = x.1.kind from fun e => h4 (by rw [← e]; exact hpq.symm))]; rfl
        · rw [decide_eq_false (show ¬ vcmp p.1 x.1 < 0 by omega)]; simp
      try refine e_fl ?_
      refine e_plain (w_as rfl rfl rfl rfl rfl .nil) ?_
      try refine e_fl ?_
      exact e_return rfl rfl (.tmp (kn rfl) (.nil)) (Imp.of_eq (by rw [e, hf]; rfl)) rfl
    have hf : pright (some x.1) (v.pairs.drop (k + 1)) = pright none v.pairs ∧ x.1.kind = q.1.kind := by
      simp only [Bool.or_eq_false_iff, Bool.and_eq_false_iff, Bool.not_eq_false', decide_eq_true_eq, decide_eq_false_iff_not] at h2
      by_cases hk0 : k = 0
      · subst hk0
        rw [hx] at hq
        obtain rfl := Option.some.inj hq
        rw [if_pos rfl, okP] at hw
        exact ⟨by simpa using hw, rfl⟩
      · have hpq := hs ((k : Int) - 1).toNat p q (by omega) hp hq
        rcases h2 with h2 | ⟨h2, h3⟩
        · omega
        · rw [if_neg hk0, okP] at hw
          rw [decide_eq_true (show p.1.kind = x.1.kind from hpq.trans h2), decide_eq_true (show vcmp p.1 x.1 < 0 by omega)] at hw
          exact ⟨by simpa using hw, h2.symm⟩
    try refine e_fl ?_
    refine e_plain (w_op rfl rfl rfl (s_bin rfl (kn rfl) (kn rfl) (v_add64 (by first | omega | (dsimp only; omega) | omega))) (w_mv rfl rfl rfl rfl rfl .nil)) ?_
    try refine e_fl ?_
    refine e_again ⟨k + 1, by omega, by rw [hnx]; exact hf.1, fun i p' q' hi hp' hq' => by
      rw [hq] at hq'
      obtain rfl := Option.some.inj hq'
      rcases Nat.lt_or_ge i k with h | h
      · exact hs i p' q h hp' hq
      · obtain rfl : i = k := by omega
        rw [hx] at hp'
        obtain rfl := Option.some.inj hp'
        exact hf.2⟩ (by dsimp only; omega) (fun K => e_sub ⟨s_t, s_t, s_t, s_t, trivial⟩ ⟨s_b, trivial⟩ trivial)
  obtain rfl : k = v.pairs.length := by have := of_decide_eq_false h; omega
  rw [List.drop_length, pright_nil] at hw
  rw [← hw] at e
  try refine e_fl ?_
  refine e_plain (w_as rfl rfl rfl rfl rfl .nil) ?_
  try refine e_fl ?_
  exact e_return rfl rfl (.tmp (kn rfl) (.nil)) (Imp.of_eq (by rw [e]; rfl)) rfl
theorem right_ef (v : Vl) (hv : v.Fine) (ht : v.Tx) (hn : vnodes v ≤ 1000000) : EF Tryz.prog [] 68 [.many (vd v)] (.part (tP (vright v))) := by
  revert hv ht hn
  refine rkids_ind (P := fun v => v.Fine → v.Tx → vnodes v ≤ 1000000 → EF Tryz.prog [] 68 [.many (vd v)] (.part (tP (vright v)))) (fun v ih hv ht hn => ?_) v
  exact right_step v hv ht hn fun x hx => ih x hx ((rkids_mem hx).2.1 hv) (ht.kid hx) (by have := (rkids_mem hx).2.2; omega)
end Go.Proofs.YtagoikglbifhmaaGreatDoor
namespace Go.Proofs.YtagoikglbifhmaaGreatDoor
open Go.RowKit
def Vl.zero : Vl := .mk 0 0 [] [] [] [] []
def vget (v : Vl) (n : Int) : Vl := if v.kind = 3 then ((v.fields.find? fun f => f.1 == n).map (·.2)).getD .zero else .zero
def vfind (v key : Vl) : Vl := if v.kind = 5 then ((v.pairs.find? fun p => vcmp p.1 key == 0).map (·.2)).getD .zero else .zero
theorem find_next {α : Type} {l : List α} {g : α → Bool} {k : Nat} {x : α} (hx : l[k]? = some x) (h : l.find? g = (l.drop k).find? g) (hn : g x = false) : l.find? g = (l.drop (k + 1)).find? g := by
  rw [h, drop_cons hx, List.find?_cons, hn]
theorem find_here {α : Type} {l : List α} {g : α → Bool} {k : Nat} {x : α} (hx : l[k]? = some x) (h : l.find? g = (l.drop k).find? g) (hn : g x = true) : l.find? g = some x := by
  rw [h, drop_cons hx, List.find?_cons, hn]
theorem find_none {α : Type} {l : List α} {g : α → Bool} {k : Nat} (hk : l.length ≤ k) (h : l.find? g = (l.drop k).find? g) : l.find? g = none := by
  rw [h, List.drop_eq_nil_of_le hk]
  rfl
set_option maxRecDepth 100000 in
set_option maxHeartbeats 4000000 in
theorem get_ef (v : Vl) (n : Int) (hv : v.Fine) : EF Tryz.prog [] 35 [.many (vd v), iP n] (.part (.many (vd (vget v n)))) := by
  have hmax : maxLen ≤ 9223372036854775807 := by decide
  obtain ⟨a1, a2, a3, a4, a5, a6, a7, a8⟩ := hv.bounds
  refine ef_enter 27 Tryz.func35 rfl rfl rfl fun w D => ?_
  try refine e_fl ?_
  refine e_list ?_
  refine e_box 2 rfl rfl rfl rfl (kn rfl) rfl rfl rfl rfl ?_
  refine e_alloc 4 [.is (.int .i64 0), .is (.int .u64 0), .is (.string ⟨#[]⟩), .is (.slice none 0 0), .is (.string ⟨#[]⟩), .is (.slice none 0 0), .is (.slice none 0 0)] rfl rfl rfl rfl zr_40 (fun w D M V => ⟨rfl, fun j x v h1 h2 => cfit_is _ h1 h2 rfl⟩) rfl rfl rfl rfl ?_
  refine e_nil ?_
  try refine e_fl ?_
  refine e_plain (w_op rfl rfl rfl (s_faddr_box rfl (kn rfl) off_40_3) (w_op rfl rfl rfl (s_load1_box rfl (kn rfl) rfl rfl one_36) (w_op rfl rfl rfl (s_len rfl (kn rfl) sle_36) (w_mv rfl rfl rfl rfl rfl .nil)))) ?_
  try refine e_fl ?_
  refine e_loop (ι := { k : Nat // k ≤ v.fields.length ∧ (v.kind = 3 → v.fields.find? (fun f => f.1 == n) = (v.fields.drop k).find? fun f => f.1 == n) })
    (fun k => [(1, .is (.int .i64 n)), (2, .box 2 0), (4, .box 4 0), (8, .part (.one (.row 8 v.fields.length (v.fields.flatMap fieldDats)))), (9, .is (.int .i64 (v.fields.length : Int))), (10, .is (.int .i64 (k.1 : Int)))])
    (fun _ => [(2, ⟨40, bcs (vd v)⟩), (4, ⟨40, [.is (.int .i64 0), .is (.int .u64 0), .is (.string ⟨#[]⟩), .is (.slice none 0 0), .is (.string ⟨#[]⟩), .is (.slice none 0 0), .is (.slice none 0 0)]⟩)]) (fun _ => []) (fun k => v.fields.length - k.1) ⟨0, by omega, fun _ => rfl⟩
    (fun K => e_sub ⟨s_t, s_t, s_t, s_t, s_t, s_t, trivial⟩ ⟨s_b, s_b, trivial⟩ trivial) ?_
  rintro ⟨k, hk, hw⟩
  dsimp only at hk hw ⊢
  try refine e_fl ?_
  refine e_plain (w_op rfl rfl rfl (s_bin rfl (kn rfl) (kn rfl) v_lss) .nil) ?_
  try refine e_fl ?_
  refine e_cond rfl (fun h => ?_) (fun h => ?_)
  · have hlt : k < v.fields.length := by have := of_decide_eq_true h; omega
    obtain ⟨x, hx⟩ : ∃ x, v.fields[k]? = some x := ⟨_, List.getElem?_eq_getElem hlt⟩
    try refine e_fl ?_
    refine e_list ?_
    refine l_op (s_index rfl (kn rfl) (kn rfl) (by omega) hx fieldDats_len sle_36 esz_36 (fieldDats_vd x)) ?_
    refine l_op (s_loadn_ref rfl (kn rfl) agg_80 sz_80) ?_
    refine e_alloc 6 [.is (.int .i64 0), .is (.int .i64 0), .is (.int .u64 0), .is (.string ⟨#[]⟩), .is (.slice none 0 0), .is (.string ⟨#[]⟩), .is (.slice none 0 0), .is (.slice none 0 0)] rfl rfl rfl rfl zr_80 (fun w D M V => ⟨rfl, fun j x v h1 h2 => cfit_is _ h1 h2 rfl⟩) rfl rfl rfl rfl ?_
    refine e_storew rfl rfl rfl (kn rfl) rfl (kn rfl) rfl rfl sz_80 ?_
    refine e_nil ?_
    try refine e_fl ?_
    refine e_plain (w_op rfl rfl rfl (s_faddr_box rfl (kn rfl) off_40_0) (w_op rfl rfl rfl (s_load1_box rfl (kn rfl) rfl rfl one_3) (w_op rfl rfl rfl (s_bin rfl (kn rfl) (kn rfl) v_eql) (w_mv rfl rfl rfl rfl rfl (Walk.gd _ rfl rfl rfl (fun h => s_faddr_box rfl (kn rfl) off_80_0) (Walk.gd _ rfl rfl rfl (fun h => s_load1_box rfl (kn_opt rfl h) rfl rfl one_3) (Walk.gd _ rfl rfl rfl (fun h => s_move rfl (kn rfl)) (Walk.gd _ rfl rfl rfl (fun h => s_bin rfl (kn_opt rfl h) (kn_opt rfl h) v_eql) (w_op rfl rfl rfl (s_and rfl (kn rfl) (fun hb => kn_opt rfl hb)) .nil))))))))) ?_
    try refine e_fl ?_
    refine e_cond rfl (fun h1 => ?_) (fun h1 => ?_)
    · obtain ⟨h2, h3⟩ : v.kind = 3 ∧ x.1 = n := by simpa using h1
      have e : vget v n = x.2 := by
        unfold vget
        rw [if_pos h2, find_here hx (hw h2) (by simpa using h3)]
        rfl
      try refine e_fl ?_
      refine e_list ?_
      refine l_op (s_faddr_box rfl (kn rfl) off_80_1) ?_
      refine l_op (s_loadn_box (ds := [_, _, _, _, _, _, _]) 7 rfl (kn rfl) rfl rfl agg_40 sz_40 rfl) ?_
      refine e_storew rfl rfl rfl (kn rfl) rfl (kn rfl) rfl rfl sz_40 ?_
      refine e_nil ?_
      try refine e_fl ?_
      exact e_return rfl rfl (.cell rfl rfl rfl agg_40 sz_40 rfl (.nil)) (Imp.of_eq (by rw [e]; rfl)) rfl
    try refine e_fl ?_
    refine e_plain (w_op rfl rfl rfl (s_bin rfl (kn rfl) (kn rfl) (v_add64 (by first | omega | (dsimp only; omega) | omega))) (w_mv rfl rfl rfl rfl rfl .nil)) ?_
    try refine e_fl ?_
    refine e_again ⟨k + 1, by omega, fun h2 => find_next hx (hw h2) (by
      have h3 : v.kind = 3 → ¬ x.1 = n := by simpa using h1
      simpa using h3 h2)⟩ (by dsimp only; omega) (fun K => e_sub ⟨s_t, s_t, s_t, s_t, s_t, s_t, trivial⟩ ⟨s_b, s_b, trivial⟩ trivial)
  have hge : v.fields.length ≤ k := by have := of_decide_eq_false h; omega
  have e : vget v n = .zero := by
    unfold vget
    by_cases h2 : v.kind = 3
    · rw [if_pos h2, find_none hge (hw h2)]
      rfl
    · exact if_neg h2
  try refine e_fl ?_
  refine e_list ?_
  refine l_op (s_build (ds := [_, _, _, _, _, _, _]) [] rfl trivial rfl pl_40 zr_40 (fun w D => .cons (.cell _) (.cons (.cell _) (.cons (.cell _) (.cons (.cell _) (.cons (.cell _) (.cons (.cell _) (.cons (.cell _) (.nil _ _)))))))) rfl) ?_
  refine e_storew rfl rfl rfl (kn rfl) rfl (kn rfl) rfl rfl sz_40 ?_
  refine e_nil ?_
  try refine e_fl ?_
  exact e_return rfl rfl (.cell rfl rfl rfl agg_40 sz_40 rfl (.nil)) (Imp.many (by rw [e]; exact ⟨DImp.refl _, DImp.refl _, DImp.refl _, DImp.nil 8, DImp.refl _, DImp.nil 7, DImp.nil 14, trivial⟩)) rfl
set_option maxRecDepth 100000 in
set_option maxHeartbeats 4000000 in
theorem find_ef (v key : Vl) (hv : v.Fine) (hkey : key.Fine) : EF Tryz.prog [] 36 [.many (vd v), .many (vd key)] (.part (.many (vd (vfind v key)))) := by
  have hmax : maxLen ≤ 9223372036854775807 := by decide
  obtain ⟨a1, a2, a3, a4, a5, a6, a7, a8⟩ := hv.bounds
  refine ef_enter 27 Tryz.func36 rfl rfl rfl fun w D => ?_
  try refine e_fl ?_
  refine e_list ?_
  refine e_box 2 rfl rfl rfl rfl (kn rfl) rfl rfl rfl rfl ?_
  refine e_box 3 rfl rfl rfl rfl (kn rfl) rfl rfl rfl rfl ?_
  refine e_alloc 4 [.is (.int .i64 0), .is (.int .u64 0), .is (.string ⟨#[]⟩), .is (.slice none 0 0), .is (.string ⟨#[]⟩), .is (.slice none 0 0), .is (.slice none 0 0)] rfl rfl rfl rfl zr_40 (fun w D M V => ⟨rfl, fun j x v h1 h2 => cfit_is _ h1 h2 rfl⟩) rfl rfl rfl rfl ?_
  refine e_nil ?_
  try refine e_fl ?_
  refine e_plain (w_op rfl rfl rfl (s_faddr_box rfl (kn rfl) off_40_6) (w_op rfl rfl rfl (s_load1_box rfl (kn rfl) rfl rfl one_38) (w_op rfl rfl rfl (s_len rfl (kn rfl) sle_38) (w_mv rfl rfl rfl rfl rfl .nil)))) ?_
  try refine e_fl ?_
  refine e_loop (ι := { k : Nat // k ≤ v.pairs.length ∧ (v.kind = 5 → v.pairs.find? (fun p => vcmp p.1 key == 0) = (v.pairs.drop k).find? fun p => vcmp p.1 key == 0) })
    (fun k => [(2, .box 2 0), (3, .box 3 0), (4, .box 4 0), (8, .part (.one (.row 14 v.pairs.length (v.pairs.flatMap pairDats)))), (9, .is (.int .i64 (v.pairs.length : Int))), (10, .is (.int .i64 (k.1 : Int)))])
    (fun _ => [(2, ⟨40, bcs (vd v)⟩), (3, ⟨40, bcs (vd key)⟩), (4, ⟨40, [.is (.int .i64 0), .is (.int .u64 0), .is (.string ⟨#[]⟩), .is (.slice none 0 0), .is (.string ⟨#[]⟩), .is (.slice none 0 0), .is (.slice none 0 0)]⟩)]) (fun _ => []) (fun k => v.pairs.length - k.1) ⟨0, by omega, fun _ => rfl⟩
    (fun K => e_sub ⟨s_t, s_t, s_t, s_t, s_t, s_t, trivial⟩ ⟨s_b, s_b, s_b, trivial⟩ trivial) ?_
  rintro ⟨k, hk, hw⟩
  dsimp only at hk hw ⊢
  try refine e_fl ?_
  refine e_plain (w_op rfl rfl rfl (s_bin rfl (kn rfl) (kn rfl) v_lss) .nil) ?_
  try refine e_fl ?_
  refine e_cond rfl (fun h => ?_) (fun h => ?_)
  · have hlt : k < v.pairs.length := by have := of_decide_eq_true h; omega
    obtain ⟨x, hx⟩ : ∃ x, v.pairs[k]? = some x := ⟨_, List.getElem?_eq_getElem hlt⟩
    try refine e_fl ?_
    refine e_list ?_
    refine l_op (s_index rfl (kn rfl) (kn rfl) (by omega) hx pairDats_len sle_38 esz_38 (pairDats_vd x)) ?_
    refine l_op (s_loadn_ref rfl (kn rfl) agg_84 sz_84) ?_
    refine e_alloc 6 [.is (.int .i64 0), .is (.int .u64 0), .is (.string ⟨#[]⟩), .is (.slice none 0 0), .is (.string ⟨#[]⟩), .is (.slice none 0 0), .is (.slice none 0 0), .is (.int .i64 0), .is (.int .u64 0), .is (.string ⟨#[]⟩), .is (.slice none 0 0), .is (.string ⟨#[]⟩), .is (.slice none 0 0), .is (.slice none 0 0)] rfl rfl rfl rfl zr_84 (fun w D M V => ⟨rfl, fun j x v h1 h2 => cfit_is _ h1 h2 rfl⟩) rfl rfl rfl rfl ?_
    refine e_storew rfl rfl rfl (kn rfl) rfl (kn rfl) rfl rfl sz_84 ?_
    refine e_nil ?_
    try refine e_fl ?_
    refine e_plain (w_op rfl rfl rfl (s_faddr_box rfl (kn rfl) off_40_0) (w_op rfl rfl rfl (s_load1_box rfl (kn rfl) rfl rfl one_3) (w_op rfl rfl rfl (s_bin rfl (kn rfl) (kn rfl) v_eql) (w_mv rfl rfl rfl rfl rfl (Walk.gd _ rfl rfl rfl (fun h => s_faddr_box rfl (kn rfl) off_84_0) (Walk.gd _ rfl rfl rfl (fun h => s_loadn_box (ds := [_, _, _, _, _, _, _]) 7 rfl (kn_opt rfl h) rfl rfl agg_40 sz_40 rfl) (Walk.gd _ rfl rfl rfl (fun h => s_loadn_box (ds := [_, _, _, _, _, _, _]) 7 rfl (kn rfl) rfl rfl agg_40 sz_40 rfl) (Walk.gd _ rfl rfl rfl (fun h => s_call rfl (by kernel_rfl) (same_ef x.1 key (hv.pair (List.mem_of_getElem? hx)).1 hkey) ⟨(kn_opt rfl h), ⟨(kn_opt rfl h), trivial⟩⟩) (w_op rfl rfl rfl (s_and rfl (kn rfl) (fun hb => kn_opt rfl hb)) .nil))))))))) ?_
    try refine e_fl ?_
    refine e_cond rfl (fun h1 => ?_) (fun h1 => ?_)
    · obtain ⟨h2, h3⟩ : v.kind = 5 ∧ vcmp x.1 key = 0 := by simpa using h1
      have e : vfind v key = x.2 := by
        unfold vfind
        rw [if_pos h2, find_here hx (hw h2) (by simpa using h3)]
        rfl
      try refine e_fl ?_
      refine e_list ?_
      refine l_op (s_faddr_box rfl (kn rfl) off_84_1) ?_
      refine l_op (s_loadn_box (ds := [_, _, _, _, _, _, _]) 7 rfl (kn rfl) rfl rfl agg_40 sz_40 rfl) ?_
      refine e_storew rfl rfl rfl (kn rfl) rfl (kn rfl) rfl rfl sz_40 ?_
      refine e_nil ?_
      try refine e_fl ?_
      exact e_return rfl rfl (.cell rfl rfl rfl agg_40 sz_40 rfl (.nil)) (Imp.of_eq (by rw [e]; rfl)) rfl
    try refine e_fl ?_
    refine e_plain (w_op rfl rfl rfl (s_bin rfl (kn rfl) (kn rfl) (v_add64 (by first | omega | (dsimp only; omega) | omega))) (w_mv rfl rfl rfl rfl rfl .nil)) ?_
    try refine e_fl ?_
    refine e_again ⟨k + 1, by omega, fun h2 => find_next hx (hw h2) (by
      have h3 : v.kind = 5 → ¬ vcmp x.1 key = 0 := by simpa using h1
      simpa using h3 h2)⟩ (by dsimp only; omega) (fun K => e_sub ⟨s_t, s_t, s_t, s_t, s_t, s_t, trivial⟩ ⟨s_b, s_b, s_b, trivial⟩ trivial)
  have hge : v.pairs.length ≤ k := by have := of_decide_eq_false h; omega
  have e : vfind v key = .zero := by
    unfold vfind
    by_cases h2 : v.kind = 5
    · rw [if_pos h2, find_none hge (hw h2)]
      rfl
    · exact if_neg h2
  try refine e_fl ?_
  refine e_list ?_
  refine l_op (s_build (ds := [_, _, _, _, _, _, _]) [] rfl trivial rfl pl_40 zr_40 (fun w D => .cons (.cell _) (.cons (.cell _) (.cons (.cell _) (.cons (.cell _) (.cons (.cell _) (.cons (.cell _) (.cons (.cell _) (.nil _ _)))))))) rfl) ?_
  refine e_storew rfl rfl rfl (kn rfl) rfl (kn rfl) rfl rfl sz_40 ?_
  refine e_nil ?_
  try refine e_fl ?_
  exact e_return rfl rfl (.cell rfl rfl rfl agg_40 sz_40 rfl (.nil)) (Imp.many (by rw [e]; exact ⟨DImp.refl _, DImp.refl _, DImp.refl _, DImp.nil 8, DImp.refl _, DImp.nil 7, DImp.nil 14, trivial⟩)) rfl
end Go.Proofs.YtagoikglbifhmaaGreatDoor
namespace Go.Proofs.YtagoikglbifhmaaGreatDoor
open Go.RowKit
abbrev zB : List IV := [.is (.int .i64 0), .is (.int .u64 0), .is (.string ⟨#[]⟩), .is (.slice none 0 0), .is (.string ⟨#[]⟩), .is (.slice none 0 0), .is (.slice none 0 0)]
end Go.Proofs.YtagoikglbifhmaaGreatDoor
