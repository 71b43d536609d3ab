/- Part 29 of what the last text of this claim is proved by: walks over the program, and the math behind them. Conditions: as each theorem says. -/
import Derived.Test.YtagoikglbifhmaaGreatDoorPA28
import Derived.Test.YtagoikglbifhmaaGreatDoorProg
namespace Go.Proofs.YtagoikglbifhmaaGreatDoor
open Go.RowKit
theorem ksum_take {q : St × Vl} : ∀ {ks : List (St × Vl)} {k : Nat}, ks[k]? = some q → ksum (ks.take k) + vnodes q.2 ≤ ksum ks
  | [], _, h => by simp at h
  | x :: ks, 0, h => by
    obtain rfl : x = q := by simpa using h
    show 0 + vnodes x.2 ≤ vnodes x.2 + ksum ks
    omega
  | x :: ks, k + 1, h => by
    have := ksum_take (ks := ks) (k := k) (q := q) (by simpa using h)
    show vnodes x.2 + ksum (ks.take k) + vnodes q.2 ≤ vnodes x.2 + ksum ks
    omega
theorem list_len (L : List (List St)) (p : List St) : L.length + 1 = (L ++ [p]).length := by simp
theorem list_map (L : List (List St)) (p : List St) : L.map pD ++ [pD p] = (L ++ [p]).map pD := by simp
theorem pair_step (L : List (List St)) (p : List St) (ks : List (St × Vl)) (k : Nat) (q : St × Vl) (h : ks[k]? = some q) : (L ++ [p] ++ ((ks.take k).flatMap pref).map (p ++ ·)) ++ (allP q.2).map ((p ++ [q.1]) ++ ·) = L ++ [p] ++ ((ks.take (k + 1)).flatMap pref).map (p ++ ·) := by
  rw [List.take_add_one, h, List.flatMap_append, List.map_append]
  simp [pref]
set_option maxRecDepth 100000 in
set_option maxHeartbeats 4000000 in
theorem pwalk_step (v : Vl) (ih : ∀ q ∈ skids v, Gp q.2 → PWalk q.2) (hv : Gp v) : PWalk v := by
  intro p L v0 hp hL h0
  have hks := ksum_skids v
  have hE := peach_eg v hv p v0 (fun k => L ++ [p] ++ (((skids v).take k).flatMap pref).map (p ++ ·)) fun k q hq => by
    have hm := List.mem_of_getElem? hq
    have h1 := kid_nodes hm
    have h2 := pflat_len ((skids v).take k) fun q _ => allP_len q.2
    have h3 := ksum_take hq
    have h4 := dclo_eg q.1 q.2 (ih q hm (kid_facts hv hq).gp) p (L ++ [p] ++ (((skids v).take k).flatMap pref).map (p ++ ·)) v0 (by omega) (by
      rw [List.length_append, List.length_append, List.length_map, List.length_singleton]
      omega)
    rw [pair_step L p (skids v) k q hq] at h4
    exact h4
  rw [List.take_length] at hE
  have e0 : L ++ [p] ++ (((skids v).take 0).flatMap pref).map (p ++ ·) = L ++ [p] := by simp
  simp only [e0] at hE
  refine eg_enter 17 Tryz.func41 rfl rfl rfl fun w D bor mb => ?_
  try refine e_fl ?_
  refine e_pin_slot 9999 (t := 0) rfl ?_
  refine e_slot 0 rfl (atv_is _ _) ?_
  refine e_list ?_
  refine e_box1 4 rfl rfl rfl rfl (kn rfl) h0 rfl rfl rfl ?_
  refine e_box 5 rfl rfl rfl rfl (kn rfl) rfl rfl rfl rfl ?_
  refine e_nil ?_
  try refine e_fl ?_
  refine e_repin (t := 9999) (b := 4) rfl rfl rfl ?_
  refine e_plain (w_op rfl rfl rfl (s_faddr_box rfl (kn rfl) off_27_0) (w_op rfl rfl rfl (s_load1_box rfl (kn rfl) rfl rfl one_3) (w_op rfl rfl rfl (s_bin rfl (kn rfl) (kn rfl) v_eql) .nil))) ?_
  try refine e_fl ?_
  refine e_cond rfl (fun h => ?_) (fun h => ?_)
  · rw [allP_none (of_decide_eq_true h), List.map_nil, List.append_nil]
    try refine e_fl ?_
    exact e_return_pin wB (wR L p) rfl (t := 9999) rfl ⟨s_b, s_b, trivial⟩ ⟨rfl, rfl, trivial⟩ ⟨rfl, rfl, rfl⟩
  have e1 : L ++ (allP v).map (p ++ ·) = L ++ [p] ++ ((skids v).flatMap pref).map (p ++ ·) := by
    rw [allP_some (of_decide_eq_false h)]
    simp
  rw [e1]
  try refine e_fl ?_
  refine e_sub (T' := [(2, .box 60 0), (3, .box 61 0), (4, .box 4 0), (5, .box 5 0)]) (B' := [(4, x62 v0), (5, ⟨27, bcs (vd v)⟩), (60, x60), (61, x61)]) (R' := wR L p) ⟨s_t, s_t, s_t, s_t, trivial⟩ ⟨s_b, s_b, s_b, s_b, trivial⟩ ⟨rfl, rfl, trivial⟩ ?_
  refine e_draw_sr 6 [[], [], [1], [2], [0, 3, 2], [4, 4, 0, 1, 2, 3, 4]] [[false, false, false, false, false, false], [true, false, false, false, false, false], [false, true, false, false, false, false], [true, true, false, false, false, false], [false, true, true, false, false, false], [true, true, true, false, false, false], [false, true, true, true, false, false], [true, true, true, true, false, false], [true, true, true, true, true, false], [true, true, true, true, true, true]] [([false, false, false, false, false, false], 0), ([false, false, false, false, false, false], 1), ([true, false, false, false, false, false], 1), ([false, true, false, false, false, false], 0), ([false, true, false, false, false, false], 2), ([true, true, false, false, false, false], 2), ([false, true, true, false, false, false], 0), ([false, true, true, false, false, false], 3), ([true, true, true, false, false, false], 3), ([false, true, true, true, false, false], 0), ([true, true, true, true, false, false], 4), ([true, true, true, true, true, false], 5)] [(4, 13, .own 1000), (4, 9, .junk), (0, 9, .own 1000), (1, 10, atv 1001 v0), (2, 11, .part (.one (pD p))), (3, 12, .part (.one (.row 1 1 [pD p])))] [(5, 60, x60), (4, 60, ⟨49, [.junk]⟩)] [(4, 1000, lR (L ++ [p]))] [(2, .box 60 0), (3, .box 61 0), (4, .box 4 0), (5, .box 5 0)] [(4, x62 v0), (5, ⟨27, bcs (vd v)⟩), (60, x60), (61, x61)] [(1000, lR L), (1001, tR p)] (by kernel_rfl) rfl mixed (by kernel_rfl) (by decide) (fun K h => h) ?_ ?_
  · repeat' first
      | exact trivial
      | refine And.intro ?_ ?_
    all_goals
      intro K hK
      replace hK := e_ddR (e_dd hK)
      first
        | (refine e_opi (i := 0) rfl (fun h => h) ?_; refine l_op (s_load1_box rfl (kn rfl) rfl rfl one_49) ?_; refine e_nil ?_; refine e_fl ?_; exact e_subR hK (by repeat' first | exact trivial | refine And.intro s_t ?_) (by repeat' first | exact trivial | refine And.intro s_b ?_) (by repeat' first | exact trivial | refine And.intro rfl ?_))
        | (refine e_opi (i := 1) rfl (fun h => h) ?_; refine l_op (s_load1_box rfl (kn rfl) rfl rfl one_29) ?_; refine e_nil ?_; refine e_fl ?_; exact e_subR hK (by repeat' first | exact trivial | refine And.intro s_t ?_) (by repeat' first | exact trivial | refine And.intro s_b ?_) (by repeat' first | exact trivial | refine And.intro rfl ?_))
        | (refine e_opi (i := 2) rfl (fun h => h) ?_; refine l_op (s_copy rfl (by kernel_rfl) (kn rfl) (fun a u h => h.1) rfl (steps_one p) (fun cs h1 h2 => pclone_eo [] p.length (by omega) cs h1 h2)) ?_; refine e_nil ?_; refine e_fl ?_; exact e_subR hK (by repeat' first | exact trivial | refine And.intro s_t ?_) (by repeat' first | exact trivial | refine And.intro s_b ?_) (by repeat' first | exact trivial | refine And.intro rfl ?_))
        | (refine e_opi (i := 3) rfl (fun h => h) ?_; refine l_op (s_buildSlice (ds := [_]) [(0, _)] rfl ⟨rfl, (kn rfl), trivial⟩ rfl sl_49 sz_29 zr_29 (fun w D => .cons (.cell _) (.nil _ _)) rfl rfl rfl rfl rfl) ?_; refine e_nil ?_; refine e_fl ?_; exact e_subR hK (by repeat' first | exact trivial | refine And.intro s_t ?_) (by repeat' first | exact trivial | refine And.intro s_b ?_) (by repeat' first | exact trivial | refine And.intro rfl ?_))
        | (refine e_opi (i := 4) rfl (fun h => h) ?_; refine e_append rfl rfl rfl rfl (kn rfl) rfl (kn rfl) sl_49 ap_49 rfl rfl (by omega) (by omega) ?_; refine e_req (list_len L p) (list_map L p) ?_; refine e_nil ?_; refine e_fl ?_; exact e_subR hK (by repeat' first | exact trivial | refine And.intro s_t ?_) (by repeat' first | exact trivial | refine And.intro s_b ?_) (by repeat' first | exact trivial | refine And.intro rfl ?_))
        | (refine e_opi (i := 5) rfl (fun h => h) ?_; refine e_store_own rfl rfl rfl (kn rfl) rfl (kn rfl) rfl rfl sz_49 rfl ?_; refine e_nil ?_; refine e_fl ?_; exact e_subR hK (by repeat' first | exact trivial | refine And.intro s_t ?_) (by repeat' first | exact trivial | refine And.intro s_b ?_) (by repeat' first | exact trivial | refine And.intro rfl ?_))
  try refine e_fl ?_
  refine e_list ?_
  refine l_op (s_loadn_box (ds := [_, _, _, _, _, _, _]) 7 rfl (kn rfl) rfl rfl agg_27 sz_27 rfl) ?_
  refine l_op (s_func (fs := []) (cs := [.box 61 0, .box 4 0]) rfl trivial ⟨kn rfl, kn rfl, trivial⟩) ?_
  refine e_callx (ys := [.part (.many (vd v)), .clo (.func 44) [] [.box 61 0, .box 62 0]]) (rn 62 4) (fun r => r) rfl rfl rfl rfl (by kernel_rfl) (lent_d rfl rfl rfl rfl rfl) ⟨kn rfl, kn rfl, trivial⟩ hE YD.tidy ?_
  rintro _ _ _ ⟨rfl, rfl, rfl⟩
  refine e_nil ?_
  try refine e_fl ?_
  refine e_pin_of 9999 (b := 4) (j := 0) rfl rfl ?_
  exact e_end_pin wB (wR (L ++ [p] ++ ((skids v).flatMap pref).map (p ++ ·)) p) rfl (t := 9999) rfl ⟨s_b, s_b, trivial⟩ ⟨rfl, rfl, trivial⟩ ⟨rfl, rfl, rfl⟩
theorem pwalk (v : Vl) (hv : Gp v) : PWalk v := sk_ind (P := fun v => Gp v → PWalk v) (fun v ih hv => pwalk_step v ih hv) v hv
theorem lent_a {B : BL} {R : RL} {L : List (List St)} {p : List St} (h60 : lk 60 B = some x60) (h61 : lk 61 B = some x61) (h1 : lk 1000 R = some (lR L)) (h2 : lk 1001 R = some (tR p)) : Lent B R (fun b => b) (fun r => r) wB (wR L p) := by
  refine ⟨fun b x hx => ?_, fun r x hx => ?_, fun a ha b hb e => e, fun a ha b hb e => e⟩
  · rcases lk_cons hx with ⟨rfl, rfl⟩ | ⟨_, hx⟩
    · exact h60
    rcases lk_cons hx with ⟨rfl, rfl⟩ | ⟨_, hx⟩
    · exact h61
    cases hx
  · rcases lk_cons hx with ⟨rfl, rfl⟩ | ⟨_, hx⟩
    · exact h1
    rcases lk_cons hx with ⟨rfl, rfl⟩ | ⟨_, hx⟩
    · exact h2
    cases hx
abbrev aD (L : List (List St)) : Part := .one (.row 1 L.length (L.map pD))
set_option maxRecDepth 100000 in
set_option maxHeartbeats 1000000 in
theorem pall_ef (v : Vl) (hv : Gp v) : EF Tryz.prog [] 17 [.many (vd v)] (.part (aD (allP v))) := by
  have hn := hv.n
  have hW := pwalk v hv [] [] (.slice none 0 0) (by simp only [List.length_nil]; omega) (by simp only [List.length_nil]; omega) rfl
  have e : [] ++ (allP v).map ([] ++ ·) = allP v := by simp
  rw [e] at hW
  refine ef_enter 10 Tryz.func17 rfl rfl rfl fun w D => ?_
  try refine e_fl ?_
  refine e_list ?_
  refine e_box 1 rfl rfl rfl rfl (kn rfl) rfl rfl rfl rfl ?_
  refine l_as ?_
  refine e_nil ?_
  try refine e_fl ?_
  refine e_list ?_
  refine e_alloc 60 [.is (.slice none 0 0)] rfl rfl rfl rfl zr_49 (fun w D M V => ⟨rfl, fun j x v h1 h2 => cfit_is _ h1 h2 rfl⟩) rfl rfl rfl rfl ?_
  refine e_nil ?_
  try refine e_fl ?_
  refine e_list ?_
  refine e_alloc 61 [.is (.nilFunc)] rfl rfl rfl rfl zr_89 (fun w D M V => ⟨rfl, fun j x v h1 h2 => cfit_is _ h1 h2 rfl⟩) rfl rfl rfl rfl ?_
  refine e_nil ?_
  try refine e_fl ?_
  refine e_list ?_
  refine l_op (s_func (fs := []) (cs := [.box 60 0, .box 61 0]) rfl trivial ⟨kn rfl, kn rfl, trivial⟩) ?_
  refine e_store1 rfl rfl rfl (kn rfl) rfl (kn rfl) rfl rfl sz_89 rfl ?_
  refine e_nil ?_
  try refine e_fl ?_
  refine e_row_cell 60 0 1000 29 1 rfl rfl rfl rfl rfl ?_
  refine e_row_pin 9999 1001 62 10 rfl rfl ?_
  refine e_list ?_
  refine l_op (s_load1_box rfl (kn rfl) rfl rfl one_89) ?_
  refine l_op (s_loadn_box (ds := [_, _, _, _, _, _, _]) 7 rfl (kn rfl) rfl rfl agg_27 sz_27 rfl) ?_
  refine e_callcw (fun b => b) (fun r => r) rfl rfl rfl rfl (by kernel_rfl) (lent_a rfl rfl rfl rfl) (kn rfl) (zs := [atv 1001 (.slice none 0 0), .part (.many (vd v))]) (fun w D M V a hT => ⟨⟨(hT 9999 _ rfl).symm, hT 9999 _ rfl⟩, hT 7 _ rfl, trivial⟩) rfl hW YW.tidy ?_
  rintro _ _ _ ⟨rfl, rfl, rfl⟩
  refine e_nil ?_
  try refine e_fl ?_
  refine e_plain (w_op rfl rfl rfl (s_load1_box rfl (kn rfl) rfl rfl one_49) (w_as rfl rfl rfl rfl rfl .nil)) ?_
  try refine e_fl ?_
  refine e_freeze_slot 2 1000 rfl rfl rfl ?_
  exact e_return rfl rfl (.tmp (kn rfl) (.nil)) (Imp.refl _) rfl
end Go.Proofs.YtagoikglbifhmaaGreatDoor
namespace Go.Proofs.YtagoikglbifhmaaGreatDoor
open Go.RowKit
abbrev lQ (L : List (List St)) : Rw := ⟨44, 1, L.length, L.map pD, false⟩
abbrev pD1 (p : List St) : List Dat := [pD p]
theorem pD1_len (p : List St) : (pD1 p).length = 1 := rfl
theorem flat_pd (L : List (List St)) : L.map pD = L.flatMap pD1 := by
  induction L with
  | nil => rfl
  | cons p L ih => rw [List.map_cons, ih, List.flatMap_cons]; rfl
abbrev aF (L : List (List St)) : Part := .one (.row 1 L.length (L.flatMap pD1))
def RAll (v : Vl) : Prop := EF Tryz.prog [] 18 [.many (vd v)] (.part (aF (allP v)))
def lB (v : Vl) (m : Nat) : List (List St) := [] :: ((skids v).take m).flatMap pref
theorem lB_step {v : Vl} {m : Nat} {q : St × Vl} (h : (skids v)[m]? = some q) : lB v m ++ ((allP q.2).take (allP q.2).length).map (q.1 :: ·) = lB v (m + 1) := by
  unfold lB
  rw [List.take_length, List.take_add_one, h, List.flatMap_append]
  simp [pref]
theorem lB_len (v : Vl) (m : Nat) : (lB v m).length ≤ vnodes v := by
  have h1 := ksum_skids v
  have h2 := pflat_len ((skids v).take m) fun q _ => allP_len q.2
  have h3 : ksum ((skids v).take m) ≤ ksum (skids v) := by
    rw [← List.take_append_drop m (skids v), ksum_append, List.take_append_drop]
    omega
  unfold lB
  rw [List.length_cons]
  omega
theorem lB_all (v : Vl) (h : v.kind ≠ 0) : lB v (skids v).length = allP v := by
  unfold lB
  rw [List.take_length, allP_some h]
theorem sk_f {v : Vl} {k : Nat} {f : Int × Vl} (h : v.fields[k]? = some f) : (skids v)[k]? = some (sF f.1, f.2) := by
  have hk := (List.getElem?_eq_some_iff.1 h).1
  unfold skids
  rw [List.getElem?_append_left (by rw [kidsF, List.length_map]; exact hk), kidsF, List.getElem?_map, h]
  rfl
theorem sk_p {v : Vl} {k : Nat} {f : Vl × Vl} (h : v.pairs[k]? = some f) : (skids v)[v.fields.length + k]? = some (sK f.1, f.2) := by
  have hk := (List.getElem?_eq_some_iff.1 h).1
  unfold skids
  rw [List.getElem?_append_right (by rw [kidsF, List.length_map]; omega), kidsF, List.length_map, Nat.add_sub_cancel_left, List.getElem?_append_left (by rw [kidsQ, List.length_map]; exact hk), kidsQ, List.getElem?_map, h]
  rfl
theorem sk_l {v : Vl} {k : Nat} {x : Vl} (h : v.list[k]? = some x) : (skids v)[v.fields.length + v.pairs.length + k]? = some (sI k, x) := by
  unfold skids
  rw [List.getElem?_append_right (by rw [kidsF, List.length_map]; omega), kidsF, List.length_map, List.getElem?_append_right (by rw [kidsQ, List.length_map]; omega), kidsQ, List.length_map,
    show v.fields.length + v.pairs.length + k - v.fields.length - v.pairs.length = k by omega, kidsL_get, h, Nat.zero_add]
  rfl
theorem sk_len (v : Vl) : (skids v).length = v.fields.length + v.pairs.length + v.list.length := by
  unfold skids
  rw [List.length_append, List.length_append, kidsF, kidsQ, List.length_map, List.length_map, kidsL_len]
  omega
theorem out_len {L M : List (List St)} {j : Nat} {p : List St} {s : St} (h : M[j]? = some p) : (L ++ (M.take j).map (s :: ·)).length + 1 = (L ++ (M.take (j + 1)).map (s :: ·)).length := by
  rw [List.take_add_one, h]
  simp
  omega
theorem out_map {L M : List (List St)} {j : Nat} {p : List St} {s : St} (h : M[j]? = some p) : (L ++ (M.take j).map (s :: ·)).map pD ++ [.row 10 (1 + p.length) (sd s ++ p.flatMap stDats)] = (L ++ (M.take (j + 1)).map (s :: ·)).map pD := by
  rw [List.take_add_one, h]
  simp [stDats_sd, Nat.add_comm]
set_option maxRecDepth 100000 in
set_option maxHeartbeats 8000000 in
theorem rall_step (v : Vl) (hn : vnodes v ≤ 1000) (ih : ∀ q ∈ skids v, RAll q.2) : RAll v := by
  have hsh : Short v := by show vnodes v ≤ 1000000; omega
  obtain ⟨a1, a2, a3⟩ := short_len hsh
  unfold RAll
  refine ef_enter 98 Tryz.func18 rfl rfl rfl fun w D => ?_
  try refine e_fl ?_
  refine e_list ?_
  refine e_box 1 rfl rfl rfl rfl (kn rfl) rfl rfl rfl rfl ?_
  refine l_as ?_
  refine e_nil ?_
  try refine e_fl ?_
  refine e_plain (w_op rfl rfl rfl (s_faddr_box rfl (kn rfl) off_40_0) (w_op rfl rfl rfl (s_load1_box rfl (kn rfl) rfl rfl one_3) (w_op rfl rfl rfl (s_bin rfl (kn rfl) (kn rfl) v_eql) .nil))) ?_
  try refine e_fl ?_
  refine e_cond rfl (fun h => ?_) (fun h0 => ?_)
  · rw [allP_none (of_decide_eq_true h)]
    try refine e_fl ?_
    refine e_plain (w_as rfl rfl rfl rfl rfl .nil) ?_
    try refine e_fl ?_
    exact e_return rfl rfl (.tmp (kn rfl) (.nil)) (Imp.nil 1) rfl
  have hk0 : v.kind ≠ 0 := of_decide_eq_false h0
  try refine e_fl ?_
  refine e_list ?_
  refine e_lit 100 (zs := [.slice none 0 0]) (zd := [.cell (.slice none 0 0)]) (cs := [.slice none 0 0]) [(0, .one (.cell (.slice none 0 0)))] rfl rfl rfl rfl ⟨rfl, kn rfl, trivial⟩ rfl sl_51 sz_44 zr_44 (fun w D => .cons (.cell _) (.nil _ _)) rfl rfl rfl rfl rfl rfl rfl ?_
  refine l_as ?_
  refine e_nil ?_
  try refine e_fl ?_
  refine e_rowds 100 (es := [pD []]) rfl ⟨DImp.nil 10, trivial⟩ ?_
  refine e_plain (w_op rfl rfl rfl (s_faddr_box rfl (kn rfl) off_40_3) (w_op rfl rfl rfl (s_load1_box rfl (kn rfl) rfl rfl one_36) (w_op rfl rfl rfl (s_len rfl (kn rfl) sle_36) (w_mv rfl rfl rfl rfl rfl .nil)))) ?_
  try refine e_fl ?_
  refine e_loop (ι := { k : Nat // k ≤ (v.fields).length })
    (fun k => [(1, .box 1 0), (3, .own 100), (21, .part (.one (.row 8 (v.fields).length ((v.fields).flatMap fieldDats)))), (22, .is (.int .i64 ((v.fields).length : Int))), (23, .is (.int .i64 (k.1 : Int)))])
    (fun _ => [(1, ⟨40, bcs (vd v)⟩)]) (fun k => [(100, lQ (lB v (0 + k.1)))]) (fun k => (v.fields).length - k.1) ⟨0, by omega⟩
    (fun K => e_sub ⟨s_t, s_t, s_t, s_t, s_t, trivial⟩ ⟨s_b, trivial⟩ ⟨rfl, trivial⟩) ?_
  rintro ⟨k, hk⟩
  dsimp only at hk ⊢
  try refine e_fl ?_
  refine e_plain (w_op rfl rfl rfl (s_bin rfl (kn rfl) (kn rfl) v_lss) .nil) ?_
  try refine e_fl ?_
  refine e_cond rfl (fun h => ?_) (fun h => ?_)
  · have hlt : k < v.fields.length := by have := of_decide_eq_true h; omega
    obtain ⟨f, hf⟩ : ∃ f, v.fields[k]? = some f := ⟨_, List.getElem?_eq_getElem hlt⟩
    have hq : (skids v)[0 + k]? = some (sF f.1, f.2) := by rw [Nat.zero_add]; exact sk_f hf
    have hih : EF Tryz.prog [] 18 [.many (vd f.2)] (.part (aF (allP f.2))) := ih _ (List.mem_of_getElem? hq)
    try refine e_fl ?_
    refine e_list ?_
    refine l_op (s_index rfl (kn rfl) (kn rfl) (by omega) hf fieldDats_len sle_36 esz_36 (fieldDats_vd f)) ?_
    refine l_op (s_loadn_ref rfl (kn rfl) agg_80 sz_80) ?_
    refine e_alloc 5 [.is (.int .i64 0), .is (.int .i64 0), .is (.int .u64 0), .is (.string ⟨#[]⟩), .is (.slice none 0 0), .is (.string ⟨#[]⟩), .is (.slice none 0 0), .is (.slice none 0 0)] rfl rfl rfl rfl zr_80 (fun w D M V => ⟨rfl, fun j x v h1 h2 => cfit_is _ h1 h2 rfl⟩) rfl rfl rfl rfl ?_
    refine e_storew rfl rfl rfl (kn rfl) rfl (kn rfl) rfl rfl sz_80 ?_
    refine e_nil ?_
    try refine e_fl ?_
    refine e_plain (w_op rfl rfl rfl (s_faddr_box rfl (kn rfl) off_80_1) (w_op rfl rfl rfl (s_loadn_box (ds := [_, _, _, _, _, _, _]) 7 rfl (kn rfl) rfl rfl agg_40 sz_40 rfl) (w_op rfl rfl rfl (s_call rfl (by kernel_rfl) (hih) ⟨(kn rfl), trivial⟩) (w_op rfl rfl rfl (s_len rfl (kn rfl) sle_51) (w_mv rfl rfl rfl rfl rfl .nil))))) ?_
    try refine e_fl ?_
    have hl1 := lB_len v (0 + k)
    have hn1 : vnodes f.2 < vnodes v := kid_nodes (List.mem_of_getElem? hq)
    have hl2 := allP_len f.2
    refine e_loop (ι := { j : Nat // j ≤ (allP f.2).length })
      (fun j => [(1, .box 1 0), (3, .own 100), (21, .part (.one (.row 8 (v.fields).length ((v.fields).flatMap fieldDats)))), (22, .is (.int .i64 ((v.fields).length : Int))), (23, .is (.int .i64 (k : Int))), (5, .box 5 0), (29, .part (aF (allP f.2))), (30, .is (.int .i64 ((allP f.2).length : Int))), (31, .is (.int .i64 (j.1 : Int)))])
      (fun _ => [(5, ⟨80, bcs (fd f)⟩), (1, ⟨40, bcs (vd v)⟩)]) (fun j => [(100, lQ (lB v (0 + k) ++ ((allP f.2).take j.1).map (sF f.1 :: ·)))]) (fun j => (allP f.2).length - j.1) ⟨0, by omega⟩
      (fun K => e_sub ⟨s_t, s_t, s_t, s_t, s_t, s_t, s_t, s_t, s_t, trivial⟩ ⟨s_b, s_b, trivial⟩ ⟨rowEq rfl (by simp) (by simp), trivial⟩) ?_
    rintro ⟨j, hj⟩
    dsimp only at hj ⊢
    try refine e_fl ?_
    refine e_plain (w_op rfl rfl rfl (s_bin rfl (kn rfl) (kn rfl) v_lss) .nil) ?_
    try refine e_fl ?_
    refine e_cond rfl (fun hc => ?_) (fun hc => ?_)
    · have hjl : j < (allP f.2).length := by have := of_decide_eq_true hc; omega
      obtain ⟨p, hp⟩ : ∃ p, (allP f.2)[j]? = some p := ⟨_, List.getElem?_eq_getElem hjl⟩
      have hdep := all_depth f.2 p (List.mem_of_getElem? hp)
      have hbig : (lB v (0 + k) ++ ((allP f.2).take j).map (sF f.1 :: ·)).length ≤ 10000 := by rw [List.length_append, List.length_map, List.length_take]; omega
      try refine e_fl ?_
      refine e_plain (w_op rfl rfl rfl (s_index rfl (kn rfl) (kn rfl) (by omega) hp pD1_len sle_51 esz_51 rfl) (w_op rfl rfl rfl (s_load1_ref rfl (kn rfl) one_44) (w_as rfl rfl rfl rfl rfl .nil))) ?_
      try refine e_fl ?_
      refine e_list ?_
      refine l_mv ?_
      refine l_op (s_faddr_box rfl (kn rfl) off_80_0) ?_
      refine l_op (s_load1_box rfl (kn rfl) rfl rfl one_3) ?_
      refine l_op (s_build (ds := [_, _, _, _, _, _, .row 8 0 [], _, .row 7 0 [], .row 14 0 []]) [(0, _), (1, _)] rfl ⟨rfl, (kn rfl), ⟨rfl, (kn rfl), trivial⟩⟩ rfl pl_76 zr_76 (fun w D => .cons (.cell _) (.cons (.cell _) (.cons (.cell _) (.cons (.cell _) (.cons (.cell _) (.cons (.cell _) (.cons (.none _ _ _) (.cons (.cell _) (.cons (.none _ _ _) (.cons (.none _ _ _) (.nil _ _))))))))))) rfl) ?_
      refine e_litD 101 (zs := [.int .i64 0, .int .i64 0, .int .i64 0, .int .i64 0, .int .u64 0, .string ⟨#[]⟩, .slice none 0 0, .string ⟨#[]⟩, .slice none 0 0, .slice none 0 0]) (zd := [.cell (.int .i64 0), .cell (.int .i64 0), .cell (.int .i64 0), .cell (.int .i64 0), .cell (.int .u64 0), .cell (.string ⟨#[]⟩), .cell (.slice none 0 0), .cell (.string ⟨#[]⟩), .cell (.slice none 0 0), .cell (.slice none 0 0)]) (ds := sd (sF f.1)) [(0, .many (sd (sF f.1)))] rfl rfl rfl rfl ⟨rfl, kn rfl, trivial⟩ rfl sl_44 sz_76 zr_76 (fun w D => .cons (.cell _) (.cons (.cell _) (.cons (.cell _) (.cons (.cell _) (.cons (.cell _) (.cons (.cell _) (.cons (.cell _) (.cons (.cell _) (.cons (.cell _) (.cons (.cell _) (.nil _ _))))))))))) rfl rfl rfl rfl rfl rfl rfl ?_
      refine l_mv ?_
      refine e_append rfl rfl rfl rfl (kn rfl) rfl (kn rfl) sl_44 ap_44 rfl (steps_one p) (by first | omega | (dsimp only; omega) | omega) (by first | omega | (dsimp only; omega) | omega) ?_
      try refine e_fl ?_
      refine e_freeze_slot 41 101 rfl rfl rfl ?_
      refine l_op (s_buildSlice (ds := [_]) [(0, _)] rfl ⟨rfl, (kn rfl), trivial⟩ rfl sl_51 sz_44 zr_44 (fun w D => .cons (.cell _) (.nil _ _)) rfl rfl rfl rfl rfl) ?_
      refine e_append rfl rfl rfl rfl (kn rfl) rfl (kn rfl) sl_51 ap_51 rfl rfl (by first | omega | (dsimp only; omega) | omega) (by first | omega | (dsimp only; omega) | omega) ?_
      try refine e_fl ?_
      refine e_req (out_len hp) (out_map hp) ?_
      refine l_as ?_
      refine e_nil ?_
      try refine e_fl ?_
      refine e_plain (w_op rfl rfl rfl (s_bin rfl (kn rfl) (kn rfl) (v_add64 (by first | omega | (dsimp only; omega) | omega))) (w_mv rfl rfl rfl rfl rfl .nil)) ?_
      try refine e_fl ?_
      refine e_again ⟨j + 1, by omega⟩ (by dsimp only; omega) (fun K => e_sub ⟨s_t, s_t, s_t, s_t, s_t, s_t, s_t, s_t, s_t, trivial⟩ ⟨s_b, s_b, trivial⟩ ⟨rfl, trivial⟩)
    obtain rfl : j = (allP f.2).length := by have := of_decide_eq_false hc; omega
    rw [lB_step hq]
    try refine e_fl ?_
    refine e_plain (w_op rfl rfl rfl (s_bin rfl (kn rfl) (kn rfl) (v_add64 (by first | omega | (dsimp only; omega) | omega))) (w_mv rfl rfl rfl rfl rfl .nil)) ?_
    try refine e_fl ?_
    refine e_again ⟨k + 1, by omega⟩ (by dsimp only; omega) (fun K => e_sub ⟨s_t, s_t, s_t, s_t, s_t, trivial⟩ ⟨s_b, trivial⟩ ⟨rowEq rfl rfl rfl, trivial⟩)
  obtain rfl : k = v.fields.length := by have := of_decide_eq_false h; omega
  rw [Nat.zero_add]
  try refine e_fl ?_
  refine e_plain (w_op rfl rfl rfl (s_faddr_box rfl (kn rfl) off_40_6) (w_op rfl rfl rfl (s_load1_box rfl (kn rfl) rfl rfl one_38) (w_op rfl rfl rfl (s_len rfl (kn rfl) sle_38) (w_mv rfl rfl rfl rfl rfl .nil)))) ?_
  try refine e_fl ?_
  refine e_loop (ι := { k : Nat // k ≤ (v.pairs).length })
    (fun k => [(1, .box 1 0), (3, .own 100), (47, .part (.one (.row 14 (v.pairs).length ((v.pairs).flatMap pairDats)))), (48, .is (.int .i64 ((v.pairs).length : Int))), (49, .is (.int .i64 (k.1 : Int)))])
    (fun _ => [(1, ⟨40, bcs (vd v)⟩)]) (fun k => [(100, lQ (lB v (v.fields.length + k.1)))]) (fun k => (v.pairs).length - k.1) ⟨0, by omega⟩
    (fun K => e_sub ⟨s_t, s_t, s_t, s_t, s_t, trivial⟩ ⟨s_b, trivial⟩ ⟨rfl, trivial⟩) ?_
  rintro ⟨k, hk⟩
  dsimp only at hk ⊢
  try refine e_fl ?_
  refine e_plain (w_op rfl rfl rfl (s_bin rfl (kn rfl) (kn rfl) v_lss) .nil) ?_
  try refine e_fl ?_
  refine e_cond rfl (fun h => ?_) (fun h => ?_)
  · have hlt : k < v.pairs.length := by have := of_decide_eq_true h; omega
    obtain ⟨f, hf⟩ : ∃ f, v.pairs[k]? = some f := ⟨_, List.getElem?_eq_getElem hlt⟩
    have hq : (skids v)[v.fields.length + k]? = some (sK f.1, f.2) := sk_p hf
    have hih : EF Tryz.prog [] 18 [.many (vd f.2)] (.part (aF (allP f.2))) := ih _ (List.mem_of_getElem? hq)
    try refine e_fl ?_
    refine e_list ?_
    refine l_op (s_index rfl (kn rfl) (kn rfl) (by omega) hf pairDats_len sle_38 esz_38 (pairDats_vd f)) ?_
    refine l_op (s_loadn_ref rfl (kn rfl) agg_84 sz_84) ?_
    refine e_alloc 9 [.is (.int .i64 0), .is (.int .u64 0), .is (.string ⟨#[]⟩), .is (.slice none 0 0), .is (.string ⟨#[]⟩), .is (.slice none 0 0), .is (.slice none 0 0), .is (.int .i64 0), .is (.int .u64 0), .is (.string ⟨#[]⟩), .is (.slice none 0 0), .is (.string ⟨#[]⟩), .is (.slice none 0 0), .is (.slice none 0 0)] rfl rfl rfl rfl zr_84 (fun w D M V => ⟨rfl, fun j x v h1 h2 => cfit_is _ h1 h2 rfl⟩) rfl rfl rfl rfl ?_
    refine e_storew rfl rfl rfl (kn rfl) rfl (kn rfl) rfl rfl sz_84 ?_
    refine e_nil ?_
    try refine e_fl ?_
    refine e_plain (w_op rfl rfl rfl (s_faddr_box rfl (kn rfl) off_84_1) (w_op rfl rfl rfl (s_loadn_box (ds := [_, _, _, _, _, _, _]) 7 rfl (kn rfl) rfl rfl agg_40 sz_40 rfl) (w_op rfl rfl rfl (s_call rfl (by kernel_rfl) (hih) ⟨(kn rfl), trivial⟩) (w_op rfl rfl rfl (s_len rfl (kn rfl) sle_51) (w_mv rfl rfl rfl rfl rfl .nil))))) ?_
    try refine e_fl ?_
    have hl1 := lB_len v (v.fields.length + k)
    have hn1 : vnodes f.2 < vnodes v := kid_nodes (List.mem_of_getElem? hq)
    have hl2 := allP_len f.2
    refine e_loop (ι := { j : Nat // j ≤ (allP f.2).length })
      (fun j => [(1, .box 1 0), (3, .own 100), (47, .part (.one (.row 14 (v.pairs).length ((v.pairs).flatMap pairDats)))), (48, .is (.int .i64 ((v.pairs).length : Int))), (49, .is (.int .i64 (k : Int))), (9, .box 9 0), (55, .part (aF (allP f.2))), (56, .is (.int .i64 ((allP f.2).length : Int))), (57, .is (.int .i64 (j.1 : Int)))])
      (fun _ => [(9, ⟨84, bcs (pd f)⟩), (1, ⟨40, bcs (vd v)⟩)]) (fun j => [(100, lQ (lB v (v.fields.length + k) ++ ((allP f.2).take j.1).map (sK f.1 :: ·)))]) (fun j => (allP f.2).length - j.1) ⟨0, by omega⟩
      (fun K => e_sub ⟨s_t, s_t, s_t, s_t, s_t, s_t, s_t, s_t, s_t, trivial⟩ ⟨s_b, s_b, trivial⟩ ⟨rowEq rfl (by simp) (by simp), trivial⟩) ?_
    rintro ⟨j, hj⟩
    dsimp only at hj ⊢
    try refine e_fl ?_
    refine e_plain (w_op rfl rfl rfl (s_bin rfl (kn rfl) (kn rfl) v_lss) .nil) ?_
    try refine e_fl ?_
    refine e_cond rfl (fun hc => ?_) (fun hc => ?_)
    · have hjl : j < (allP f.2).length := by have := of_decide_eq_true hc; omega
      obtain ⟨p, hp⟩ : ∃ p, (allP f.2)[j]? = some p := ⟨_, List.getElem?_eq_getElem hjl⟩
      have hdep := all_depth f.2 p (List.mem_of_getElem? hp)
      have hbig : (lB v (v.fields.length + k) ++ ((allP f.2).take j).map (sK f.1 :: ·)).length ≤ 10000 := by rw [List.length_append, List.length_map, List.length_take]; omega
      try refine e_fl ?_
      refine e_plain (w_op rfl rfl rfl (s_index rfl (kn rfl) (kn rfl) (by omega) hp pD1_len sle_51 esz_51 rfl) (w_op rfl rfl rfl (s_load1_ref rfl (kn rfl) one_44) (w_as rfl rfl rfl rfl rfl .nil))) ?_
      try refine e_fl ?_
      refine e_list ?_
      refine l_mv ?_
      refine l_op (s_faddr_box rfl (kn rfl) off_84_0) ?_
      refine l_op (s_loadn_box (ds := [_, _, _, _, _, _, _]) 7 rfl (kn rfl) rfl rfl agg_40 sz_40 rfl) ?_
      refine l_op (s_build (ds := [_, _, _, _, _, _, _, _, _, _]) [(0, _), (3, _)] rfl ⟨rfl, (kn rfl), ⟨rfl, (kn rfl), trivial⟩⟩ rfl pl_76 zr_76 (fun w D => .cons (.cell _) (.cons (.cell _) (.cons (.cell _) (.cons (.cell _) (.cons (.cell _) (.cons (.cell _) (.cons (.cell _) (.cons (.cell _) (.cons (.cell _) (.cons (.cell _) (.nil _ _))))))))))) rfl) ?_
      refine e_litD 101 (zs := [.int .i64 0, .int .i64 0, .int .i64 0, .int .i64 0, .int .u64 0, .string ⟨#[]⟩, .slice none 0 0, .string ⟨#[]⟩, .slice none 0 0, .slice none 0 0]) (zd := [.cell (.int .i64 0), .cell (.int .i64 0), .cell (.int .i64 0), .cell (.int .i64 0), .cell (.int .u64 0), .cell (.string ⟨#[]⟩), .cell (.slice none 0 0), .cell (.string ⟨#[]⟩), .cell (.slice none 0 0), .cell (.slice none 0 0)]) (ds := sd (sK f.1)) [(0, .many (sd (sK f.1)))] rfl rfl rfl rfl ⟨rfl, kn rfl, trivial⟩ rfl sl_44 sz_76 zr_76 (fun w D => .cons (.cell _) (.cons (.cell _) (.cons (.cell _) (.cons (.cell _) (.cons (.cell _) (.cons (.cell _) (.cons (.cell _) (.cons (.cell _) (.cons (.cell _) (.cons (.cell _) (.nil _ _))))))))))) rfl rfl rfl rfl rfl rfl rfl ?_
      refine l_mv ?_
      refine e_append rfl rfl rfl rfl (kn rfl) rfl (kn rfl) sl_44 ap_44 rfl (steps_one p) (by first | omega | (dsimp only; omega) | omega) (by first | omega | (dsimp only; omega) | omega) ?_
      try refine e_fl ?_
      refine e_freeze_slot 67 101 rfl rfl rfl ?_
      refine l_op (s_buildSlice (ds := [_]) [(0, _)] rfl ⟨rfl, (kn rfl), trivial⟩ rfl sl_51 sz_44 zr_44 (fun w D => .cons (.cell _) (.nil _ _)) rfl rfl rfl rfl rfl) ?_
      refine e_append rfl rfl rfl rfl (kn rfl) rfl (kn rfl) sl_51 ap_51 rfl rfl (by first | omega | (dsimp only; omega) | omega) (by first | omega | (dsimp only; omega) | omega) ?_
      try refine e_fl ?_
      refine e_req (out_len hp) (out_map hp) ?_
      refine l_as ?_
      refine e_nil ?_
      try refine e_fl ?_
      refine e_plain (w_op rfl rfl rfl (s_bin rfl (kn rfl) (kn rfl) (v_add64 (by first | omega | (dsimp only; omega) | omega))) (w_mv rfl rfl rfl rfl rfl .nil)) ?_
      try refine e_fl ?_
      refine e_again ⟨j + 1, by omega⟩ (by dsimp only; omega) (fun K => e_sub ⟨s_t, s_t, s_t, s_t, s_t, s_t, s_t, s_t, s_t, trivial⟩ ⟨s_b, s_b, trivial⟩ ⟨rfl, trivial⟩)
    obtain rfl : j = (allP f.2).length := by have := of_decide_eq_false hc; omega
    rw [lB_step hq]
    try refine e_fl ?_
    refine e_plain (w_op rfl rfl rfl (s_bin rfl (kn rfl) (kn rfl) (v_add64 (by first | omega | (dsimp only; omega) | omega))) (w_mv rfl rfl rfl rfl rfl .nil)) ?_
    try refine e_fl ?_
    refine e_again ⟨k + 1, by omega⟩ (by dsimp only; omega) (fun K => e_sub ⟨s_t, s_t, s_t, s_t, s_t, trivial⟩ ⟨s_b, trivial⟩ ⟨rowEq rfl rfl rfl, trivial⟩)
  obtain rfl : k = v.pairs.length := by have := of_decide_eq_false h; omega
  try refine e_fl ?_
  refine e_plain (w_op rfl rfl rfl (s_faddr_box rfl (kn rfl) off_40_5) (w_op rfl rfl rfl (s_load1_box rfl (kn rfl) rfl rfl one_37) (w_op rfl rfl rfl (s_len rfl (kn rfl) sle_37) (w_mv rfl rfl rfl rfl rfl .nil)))) ?_
  try refine e_fl ?_
  refine e_loop (ι := { k : Nat // k ≤ (v.list).length })
    (fun k => [(1, .box 1 0), (3, .own 100), (73, .part (.one (.row 7 (v.list).length ((v.list).flatMap Vl.dats)))), (74, .is (.int .i64 ((v.list).length : Int))), (75, .is (.int .i64 (k.1 : Int)))])
    (fun _ => [(1, ⟨40, bcs (vd v)⟩)]) (fun k => [(100, lQ (lB v (v.fields.length + v.pairs.length + k.1)))]) (fun k => (v.list).length - k.1) ⟨0, by omega⟩
    (fun K => e_sub ⟨s_t, s_t, s_t, s_t, s_t, trivial⟩ ⟨s_b, trivial⟩ ⟨rfl, trivial⟩) ?_
  rintro ⟨k, hk⟩
  dsimp only at hk ⊢
  try refine e_fl ?_
  refine e_plain (w_op rfl rfl rfl (s_bin rfl (kn rfl) (kn rfl) v_lss) .nil) ?_
  try refine e_fl ?_
  refine e_cond rfl (fun h => ?_) (fun h => ?_)
  · have hlt : k < v.list.length := by have := of_decide_eq_true h; omega
    obtain ⟨f, hf⟩ : ∃ f, v.list[k]? = some f := ⟨_, List.getElem?_eq_getElem hlt⟩
    have hq : (skids v)[v.fields.length + v.pairs.length + k]? = some (sI k, f) := sk_l hf
    have hih : EF Tryz.prog [] 18 [.many (vd f)] (.part (aF (allP f))) := ih _ (List.mem_of_getElem? hq)
    try refine e_fl ?_
    refine e_list ?_
    refine l_mv ?_
    refine l_op (s_index rfl (kn rfl) (kn rfl) (by omega) hf Vl.dats_len sle_37 esz_37 (dats_vd f)) ?_
    refine l_op (s_loadn_ref rfl (kn rfl) agg_40 sz_40) ?_
    refine e_alloc 13 [.is (.int .i64 0), .is (.int .u64 0), .is (.string ⟨#[]⟩), .is (.slice none 0 0), .is (.string ⟨#[]⟩), .is (.slice none 0 0), .is (.slice none 0 0)] rfl rfl rfl rfl zr_40 (fun w D M V => ⟨rfl, fun j x v h1 h2 => cfit_is _ h1 h2 rfl⟩) rfl rfl rfl rfl ?_
    refine l_as ?_
    refine e_storew rfl rfl rfl (kn rfl) rfl (kn rfl) rfl rfl sz_40 ?_
    refine e_nil ?_
    try refine e_fl ?_
    refine e_plain (w_op rfl rfl rfl (s_loadn_box (ds := [_, _, _, _, _, _, _]) 7 rfl (kn rfl) rfl rfl agg_40 sz_40 rfl) (w_op rfl rfl rfl (s_call rfl (by kernel_rfl) (hih) ⟨(kn rfl), trivial⟩) (w_op rfl rfl rfl (s_len rfl (kn rfl) sle_51) (w_mv rfl rfl rfl rfl rfl .nil)))) ?_
    try refine e_fl ?_
    have hl1 := lB_len v (v.fields.length + v.pairs.length + k)
    have hn1 : vnodes f < vnodes v := kid_nodes (List.mem_of_getElem? hq)
    have hl2 := allP_len f
    refine e_loop (ι := { j : Nat // j ≤ (allP f).length })
      (fun j => [(1, .box 1 0), (3, .own 100), (73, .part (.one (.row 7 (v.list).length ((v.list).flatMap Vl.dats)))), (74, .is (.int .i64 ((v.list).length : Int))), (75, .is (.int .i64 (k : Int))), (12, .is (.int .i64 (k : Int))), (81, .part (aF (allP f))), (82, .is (.int .i64 ((allP f).length : Int))), (83, .is (.int .i64 (j.1 : Int)))])
      (fun _ => [(13, ⟨40, bcs (vd f)⟩), (1, ⟨40, bcs (vd v)⟩)]) (fun j => [(100, lQ (lB v (v.fields.length + v.pairs.length + k) ++ ((allP f).take j.1).map (sI k :: ·)))]) (fun j => (allP f).length - j.1) ⟨0, by omega⟩
      (fun K => e_sub ⟨s_t, s_t, s_t, s_t, s_t, s_t, s_t, s_t, s_t, trivial⟩ ⟨s_b, s_b, trivial⟩ ⟨rowEq rfl (by simp) (by simp), trivial⟩) ?_
    rintro ⟨j, hj⟩
    dsimp only at hj ⊢
    try refine e_fl ?_
    refine e_plain (w_op rfl rfl rfl (s_bin rfl (kn rfl) (kn rfl) v_lss) .nil) ?_
    try refine e_fl ?_
    refine e_cond rfl (fun hc => ?_) (fun hc => ?_)
    · have hjl : j < (allP f).length := by have := of_decide_eq_true hc; omega
      obtain ⟨p, hp⟩ : ∃ p, (allP f)[j]? = some p := ⟨_, List.getElem?_eq_getElem hjl⟩
      have hdep := all_depth f p (List.mem_of_getElem? hp)
      have hbig : (lB v (v.fields.length + v.pairs.length + k) ++ ((allP f).take j).map (sI k :: ·)).length ≤ 10000 := by rw [List.length_append, List.length_map, List.length_take]; omega
      try refine e_fl ?_
      refine e_plain (w_op rfl rfl rfl (s_index rfl (kn rfl) (kn rfl) (by omega) hp pD1_len sle_51 esz_51 rfl) (w_op rfl rfl rfl (s_load1_ref rfl (kn rfl) one_44) (w_as rfl rfl rfl rfl rfl .nil))) ?_
      try refine e_fl ?_
      refine e_list ?_
      refine l_mv ?_
      refine l_mv ?_
      refine l_op (s_build (ds := [_, _, _, _, _, _, .row 8 0 [], _, .row 7 0 [], .row 14 0 []]) [(0, _), (1, _)] rfl ⟨rfl, (kn rfl), ⟨rfl, (kn rfl), trivial⟩⟩ rfl pl_76 zr_76 (fun w D => .cons (.cell _) (.cons (.cell _) (.cons (.cell _) (.cons (.cell _) (.cons (.cell _) (.cons (.cell _) (.cons (.none _ _ _) (.cons (.cell _) (.cons (.none _ _ _) (.cons (.none _ _ _) (.nil _ _))))))))))) rfl) ?_
      refine e_litD 101 (zs := [.int .i64 0, .int .i64 0, .int .i64 0, .int .i64 0, .int .u64 0, .string ⟨#[]⟩, .slice none 0 0, .string ⟨#[]⟩, .slice none 0 0, .slice none 0 0]) (zd := [.cell (.int .i64 0), .cell (.int .i64 0), .cell (.int .i64 0), .cell (.int .i64 0), .cell (.int .u64 0), .cell (.string ⟨#[]⟩), .cell (.slice none 0 0), .cell (.string ⟨#[]⟩), .cell (.slice none 0 0), .cell (.slice none 0 0)]) (ds := sd (sI k)) [(0, .many (sd (sI k)))] rfl rfl rfl rfl ⟨rfl, kn rfl, trivial⟩ rfl sl_44 sz_76 zr_76 (fun w D => .cons (.cell _) (.cons (.cell _) (.cons (.cell _) (.cons (.cell _) (.cons (.cell _) (.cons (.cell _) (.cons (.cell _) (.cons (.cell _) (.cons (.cell _) (.cons (.cell _) (.nil _ _))))))))))) rfl rfl rfl rfl rfl rfl rfl ?_
      refine l_mv ?_
      refine e_append rfl rfl rfl rfl (kn rfl) rfl (kn rfl) sl_44 ap_44 rfl (steps_one p) (by first | omega | (dsimp only; omega) | omega) (by first | omega | (dsimp only; omega) | omega) ?_
      try refine e_fl ?_
      refine e_freeze_slot 92 101 rfl rfl rfl ?_
      refine l_op (s_buildSlice (ds := [_]) [(0, _)] rfl ⟨rfl, (kn rfl), trivial⟩ rfl sl_51 sz_44 zr_44 (fun w D => .cons (.cell _) (.nil _ _)) rfl rfl rfl rfl rfl) ?_
      refine e_append rfl rfl rfl rfl (kn rfl) rfl (kn rfl) sl_51 ap_51 rfl rfl (by first | omega | (dsimp only; omega) | omega) (by first | omega | (dsimp only; omega) | omega) ?_
      try refine e_fl ?_
      refine e_req (out_len hp) (out_map hp) ?_
      refine l_as ?_
      refine e_nil ?_
      try refine e_fl ?_
      refine e_plain (w_op rfl rfl rfl (s_bin rfl (kn rfl) (kn rfl) (v_add64 (by first | omega | (dsimp only; omega) | omega))) (w_mv rfl rfl rfl rfl rfl .nil)) ?_
      try refine e_fl ?_
      refine e_again ⟨j + 1, by omega⟩ (by dsimp only; omega) (fun K => e_sub ⟨s_t, s_t, s_t, s_t, s_t, s_t, s_t, s_t, s_t, trivial⟩ ⟨s_b, s_b, trivial⟩ ⟨rfl, trivial⟩)
    obtain rfl : j = (allP f).length := by have := of_decide_eq_false hc; omega
    rw [lB_step hq]
    try refine e_fl ?_
    refine e_plain (w_op rfl rfl rfl (s_bin rfl (kn rfl) (kn rfl) (v_add64 (by first | omega | (dsimp only; omega) | omega))) (w_mv rfl rfl rfl rfl rfl .nil)) ?_
    try refine e_fl ?_
    refine e_again ⟨k + 1, by omega⟩ (by dsimp only; omega) (fun K => e_sub ⟨s_t, s_t, s_t, s_t, s_t, trivial⟩ ⟨s_b, trivial⟩ ⟨rowEq rfl rfl rfl, trivial⟩)
  obtain rfl : k = v.list.length := by have := of_decide_eq_false h; omega
  rw [← sk_len, lB_all v hk0]
  try refine e_fl ?_
  refine e_plain (w_mv rfl rfl rfl rfl rfl (w_as rfl rfl rfl rfl rfl .nil)) ?_
  try refine e_fl ?_
  refine e_freeze_slot 2 100 rfl rfl rfl ?_
  exact e_return rfl rfl (.tmp (kn rfl) (.nil)) (Imp.of_eq (by show IV.part (.one (.row 1 (allP v).length ((allP v).map pD))) = _; rw [flat_pd])) rfl
theorem rall_ef (v : Vl) (hn : vnodes v ≤ 1000) : EF Tryz.prog [] 18 [.many (vd v)] (.part (aF (allP v))) := by
  refine sk_ind (P := fun v => vnodes v ≤ 1000 → RAll v) (fun v ih hn => rall_step v hn fun q hq => ih q hq ?_) v hn
  have := kid_nodes hq
  omega
end Go.Proofs.YtagoikglbifhmaaGreatDoor
