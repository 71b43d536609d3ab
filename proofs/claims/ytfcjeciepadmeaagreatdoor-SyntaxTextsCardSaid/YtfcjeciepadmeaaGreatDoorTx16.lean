/- Part 16 of what the last text of this claim is proved by: walks over the program, and the math behind them. Conditions: as each theorem says. -/
import Derived.Test.YtfcjeciepadmeaaGreatDoorTx15
import Derived.Test.YtfcjeciepadmeaaGreatDoorProg
namespace Go.Proofs.YtfcjeciepadmeaaGreatDoor
open Go.RowKit
def RYb {α : Type} (C : α → Prop) (P : α → List Part) (r : Ans8 (α × Nat)) (y : IV) : Prop := ∃ (x : α) (q a b : Nat), y = .tup (P x ++ [iP q, stP a b]) ∧ C x ∧ Res r (x, q) a b
abbrev oQ (x : List UInt8 × List Fld) : List Part := [sP x.1, .one (.row 10 x.2.length (x.2.flatMap Fld.dats))]
abbrev oneGo (l : List Tk) (x : Tk) (which : Int) (n : Nat) (fs : List Fld) (q : Nat) : Ans8 ((List UInt8 × List Fld) × Nat) :=
 match sFlds l which n fs q with
 | .error e => .error e
 | .ok (fs, r) => .ok ((x.1.t, fs), r)
theorem one_nil (q a b : Nat) : Imp (.tup [sP [], .one (.cell (.slice none 0 0)), iP q, stP a b]) (.tup (oQ ([], []) ++ [iP q, stP a b])) := Imp.tup ⟨PImp.refl _, DImp.nil 10, PImp.refl _, PImp.refl _, trivial⟩
set_option maxRecDepth 100000 in
set_option maxHeartbeats 4000000 in
theorem oneof_y (l : List Tk) (hl : TksOk l) (p : Nat) (hp : p ≤ 100000) (which : Int) : EFx Tryz.prog [] 92 [tksP l, iP p, iP which] (RYb (fun x => x.2.length ≤ 100001) oQ (sOneof l p which)) := by
 refine ef_enter 57 Tryz.func92 rfl rfl rfl fun w D => ?_
 try refine e_fl ?_
 have hll := hl.len
 refine e_list ?_
 refine l_as ?_
 refine l_as ?_
 refine l_as ?_
 refine e_alloc 9 [.is (.int .i64 0), .is (.int .i64 0)] rfl rfl rfl rfl zr_102 (fun w D M V => ⟨rfl, fun j x v h1 h2 => cfit_is _ h1 h2 rfl⟩) rfl rfl rfl rfl ?_
 refine e_nil ?_
 try refine e_fl ?_
 refine e_list ?_
 refine l_mv ?_
 refine l_mv ?_
 refine e_list_call rfl rfl rfl rfl (by kernel_rfl) (head_y l hl p hp) ⟨(kn rfl), ⟨(kn rfl), trivial⟩⟩ ?_
 rintro _ ⟨x, q0, a0, b0, rfl, hr0⟩
 refine l_mv ?_
 refine l_ex ?_
 refine l_ex ?_
 refine l_ex ?_
 refine e_alloc 10 [.is (.int .i64 0), .is (.string ⟨#[]⟩), .is (.int .i64 0), .is (.int .i64 0), .is (.int .i64 0)] rfl rfl rfl rfl zr_97 (fun w D M V => ⟨rfl, fun j x v h1 h2 => cfit_is _ h1 h2 rfl⟩) rfl rfl rfl rfl ?_
 refine e_alloc 11 [.is (.int .i64 0), .is (.int .i64 0)] rfl rfl rfl rfl zr_102 (fun w D M V => ⟨rfl, fun j x v h1 h2 => cfit_is _ h1 h2 rfl⟩) rfl rfl rfl rfl ?_
 refine e_storew rfl rfl rfl (kn rfl) rfl (kn rfl) rfl rfl sz_97 ?_
 refine l_as ?_
 refine e_storew rfl rfl rfl (kn rfl) rfl (kn rfl) rfl rfl sz_102 ?_
 refine e_nil ?_
 try refine e_fl ?_
 refine e_list ?_
 refine e_made 100 rfl rfl rfl rfl sl_65 ap_65 rfl rfl ?_
 refine l_as ?_
 refine e_nil ?_
 try refine e_fl ?_
 refine e_loop (ι := { i : Nat × List Fld × Nat × Nat × Nat // Loop (sOneof l p which) (oneGo l x which) l.length i.1 i.2.1 i.2.2.1 i.2.2.2.1 i.2.2.2.2 })
  (fun i => [(0, .part (tksP l)), (1, .is (.int .i64 (i.1.2.2.1 : Int))), (2, .is (.int .i64 which)), (9, .box 9 0), (10, .box 10 0), (11, .box 11 0), (12, .own 100)])
  (fun i => [(9, ⟨102, [.is (.int .i64 0), .is (.int .i64 0)]⟩), (10, ⟨97, bcs (tkD x)⟩), (11, ⟨102, [.is (.int .i64 (i.1.2.2.2.1 : Int)), .is (.int .i64 (i.1.2.2.2.2 : Int))]⟩)])
  (fun i => [(100, ⟨112, 10, i.1.2.1.length, i.1.2.1.flatMap Fld.dats, false⟩)])
  (fun i => if i.1.2.2.2.2 = 0 then i.1.1 + 1 else 0) ⟨(l.length + 1, [], q0, a0, b0), by
   dsimp only
   rcases hr0 with ⟨h1, h2, h3⟩ | ⟨h1, h3⟩
   ·have h4 := sHead_ok h3
    exact .inl ⟨h1, h2, by omega, by omega, by omega, by simp, by simp only [sOneof, h3]; rfl⟩
   ·exact .inr ⟨h1, by simp, by simp only [sOneof, h3]⟩⟩
  (fun K => e_sub ⟨s_t, s_t, s_t, s_t, s_t, s_t, s_t, trivial⟩ ⟨s_b, s_b, s_b, trivial⟩ ⟨rfl, trivial⟩) ?_
 rintro ⟨⟨n, fs, q, a, b⟩, hi⟩
 dsimp only at hi ⊢
 try refine e_fl ?_
 refine e_plain (w_op rfl rfl rfl (s_faddr_box rfl (kn rfl) off_102_1) (w_op rfl rfl rfl (s_load1_box rfl (kn rfl) rfl rfl one_3) (w_op rfl rfl rfl (s_bin rfl (kn rfl) (kn rfl) v_eql) .nil))) ?_
 try refine e_fl ?_
 refine e_cond rfl (fun h => ?_) (fun h => ?_)
 ·obtain ⟨rfl, rfl, ⟨k, rfl⟩, hn1, hq, hv, hw⟩ := hi.go h
  have hs := semis_le hq
  try refine e_fl ?_
  refine e_plain (w_mv rfl rfl rfl rfl rfl (w_mv rfl rfl rfl rfl rfl (w_op rfl rfl rfl (s_call rfl (by kernel_rfl) (semis_ef l hl q (by omega)) ⟨(kn rfl), ⟨(kn rfl), trivial⟩⟩) (w_as rfl rfl rfl rfl rfl .nil)))) ?_
  try refine e_fl ?_
  refine e_plain (w_mv rfl rfl rfl rfl rfl (w_mv rfl rfl rfl rfl rfl (w_op rfl rfl rfl (s_call rfl (by kernel_rfl) (is_ef l (semis l q) 4 [125]) ⟨(kn rfl), ⟨(kn rfl), ⟨(kn rfl), ⟨(kn rfl), trivial⟩⟩⟩⟩) .nil))) ?_
  try refine e_fl ?_
  refine e_cond rfl (fun hc => ?_) (fun hc => ?_)
  ·have hlt := tkIs_lt hc
   try refine e_fl ?_
   refine e_plain (w_mv rfl rfl rfl rfl rfl (w_op rfl rfl rfl (s_len_own rfl (kn rfl) rfl sle_65) (w_op rfl rfl rfl (s_bin rfl (kn rfl) (kn rfl) v_eql) .nil))) ?_
   try refine e_fl ?_
   refine e_cond rfl (fun h1 => ?_) (fun h1 => ?_)
   ·rw [lnil] at h1
    obtain rfl : fs = [] := List.length_eq_zero_iff.1 (of_decide_eq_true h1)
    try refine e_fl ?_
    refine e_list ?_
    refine l_mv ?_
    refine l_mv ?_
    refine l_op (s_call rfl (by kernel_rfl) (bad_ef (semis l q)) ⟨(kn rfl), trivial⟩) ?_
    refine l_as ?_
    refine l_as ?_
    refine l_as ?_
    refine e_storew rfl rfl rfl (kn rfl) rfl (kn rfl) rfl rfl sz_102 ?_
    refine e_nil ?_
    try refine e_fl ?_
    exact e_return rfl rfl (.tmp (kn rfl) (.tmp (kn rfl) (.tmp (kn rfl) (.cell rfl rfl rfl agg_102 sz_102 rfl (.nil))))) (one_nil (semis l q) (semis l q) 9) (⟨([], []), semis l q, semis l q, 9, rfl, by simp, .ill (by decide) (by simp only [hw, oneGo, sFlds, hc]; rfl)⟩)
   ·rw [lnil] at h1
    have h2 : ¬ fs = [] := fun e => by
     subst e
     cases h1
    try refine e_fl ?_
    refine e_list ?_
    refine l_op (s_faddr_box rfl (kn rfl) off_97_1) ?_
    refine l_op (s_load1_box rfl (kn rfl) rfl rfl one_9) ?_
    refine l_mv ?_
    refine l_mv ?_
    refine l_op (s_bin rfl (kn rfl) (kn rfl) (v_add64 (by first | omega | (dsimp only; omega) | omega))) ?_
    refine l_op (s_build (ds := [_, _]) [] rfl trivial rfl pl_102 zr_102 (fun w D => .cons (.cell _) (.cons (.cell _) (.nil _ _))) rfl) ?_
    refine l_as ?_
    refine l_as ?_
    refine l_as ?_
    refine e_storew rfl rfl rfl (kn rfl) rfl (kn rfl) rfl rfl sz_102 ?_
    refine e_nil ?_
    try refine e_fl ?_
    refine e_freeze_slot 7 100 rfl rfl rfl ?_
    exact e_return rfl rfl (.tmp (kn rfl) (.tmp (kn rfl) (.tmp (kn rfl) (.cell rfl rfl rfl agg_102 sz_102 rfl (.nil))))) (Imp.refl _) (⟨(x.1.t, fs), semis l q + 1, 0, 0, rfl, by dsimp only; omega, .good (by simp only [hw, oneGo, sFlds, hc, if_neg h2]; rfl)⟩)
  ·try refine e_fl ?_
   refine e_list ?_
   refine e_alloc 13 [.is (.string ⟨#[]⟩), .is (.string ⟨#[]⟩), .is (.string ⟨#[]⟩), .is (.string ⟨#[]⟩), .is (.int .i64 0), .is (.int .i64 0), .is (.int .i64 0), .is (.int .i64 0), .is (.int .i64 0), .is (.int .i64 0)] rfl rfl rfl rfl zr_112 (fun w D M V => ⟨rfl, fun j x v h1 h2 => cfit_is _ h1 h2 rfl⟩) rfl rfl rfl rfl ?_
   refine e_nil ?_
   try refine e_fl ?_
   refine e_list ?_
   refine l_mv ?_
   refine l_mv ?_
   refine l_mv ?_
   refine e_list_call rfl rfl rfl rfl (by kernel_rfl) (field_y l hl (semis l q) (by omega) 1 which) ⟨(kn rfl), ⟨(kn rfl), ⟨(kn rfl), ⟨(kn rfl), trivial⟩⟩⟩⟩ ?_
   rintro _ ⟨f, r, a, b, rfl, hr⟩
   refine l_mv ?_
   refine l_ex ?_
   refine l_ex ?_
   refine l_ex ?_
   refine e_storew rfl rfl rfl (kn rfl) rfl (kn rfl) rfl rfl sz_112 ?_
   refine l_as ?_
   refine e_storew rfl rfl rfl (kn rfl) rfl (kn rfl) rfl rfl sz_102 ?_
   refine e_nil ?_
   try refine e_fl ?_
   refine e_list ?_
   refine l_mv ?_
   refine l_op (s_loadn_box (ds := [_, _, _, _, _, _, _, _, _, _]) 10 rfl (kn rfl) rfl rfl agg_112 sz_112 rfl) ?_
   refine l_op (s_buildSlice (ds := [_, _, _, _, _, _, _, _, _, _]) [(0, _)] rfl ⟨rfl, (kn rfl), trivial⟩ rfl sl_65 sz_112 zr_112 (fun w D => .cons (.cell _) (.cons (.cell _) (.cons (.cell _) (.cons (.cell _) (.cons (.cell _) (.cons (.cell _) (.cons (.cell _) (.cons (.cell _) (.cons (.cell _) (.cons (.cell _) (.nil _ _))))))))))) rfl rfl rfl rfl rfl) ?_
   refine e_append rfl rfl rfl rfl (kn rfl) rfl (kn rfl) sl_65 ap_65 rfl rfl (by first | omega | (dsimp only; omega) | omega) (by first | omega | (dsimp only; omega) | omega) ?_
   refine l_as ?_
   refine e_nil ?_
   try refine e_fl ?_
   refine e_again ⟨(k, fs ++ [f], r, a, b), by
     dsimp only
     rcases hr with ⟨h1, h2, h3⟩ | ⟨h1, h3⟩
     ·have h4 := sField_ok h3
      refine .inl ⟨h1, h2, by omega, by omega, by omega, by simp only [List.length_append, List.length_cons, List.length_nil]; omega, ?_⟩
      simp only [hw, oneGo, sFlds, hc, h3]
      rfl
     ·refine .inr ⟨h1, by simp only [List.length_append, List.length_cons, List.length_nil]; omega, ?_⟩
      simp only [hw, oneGo, sFlds, hc, h3]
      rfl⟩ (by dsimp only; rw [if_pos (show (0 : Nat) = 0 from rfl)]; split <;> omega) (fun K => e_sub ⟨s_t, s_t, s_t, s_t, s_t, s_t, s_t, trivial⟩ ⟨s_b, s_b, s_b, trivial⟩ ⟨by first | rfl | exact rowEq rfl (by simp) (by simp [List.flatMap_append, Fld.dats, Fld.cells]), trivial⟩)
 ·obtain ⟨hb, hv, hw⟩ := hi.stop h
  try refine e_fl ?_
  refine e_draw_mix [(9, _)] mixed (by kernel_rfl) (WalkM.op rfl rfl rfl (s_move rfl (kn rfl)) (WalkM.op rfl rfl rfl (s_loadn_box (ds := [_, _]) 2 rfl (kn rfl) rfl rfl agg_102 sz_102 rfl) (WalkM.op rfl rfl rfl (s_assign rfl (kn rfl)) (WalkM.op rfl rfl rfl (s_assign rfl (kn rfl)) (WalkM.op rfl rfl rfl (s_assign rfl (kn rfl)) (WalkM.stw rfl rfl rfl (kn rfl) rfl rfl (kn rfl) rfl rfl rfl sz_102 (WalkM.nil))))))) rfl ?_
  try refine e_fl ?_
  exact e_return rfl rfl (.tmp (kn rfl) (.tmp (kn rfl) (.tmp (kn rfl) (.cell rfl rfl rfl agg_102 sz_102 rfl (.nil))))) (one_nil q a b) (⟨([], []), q, a, b, rfl, by simp, .ill hb hw⟩)
abbrev rQ (x : List (Int × Int) × List (List UInt8)) : List Part := [.one (.row 2 x.1.length (x.1.flatMap rangeDats)), .one (.row 1 x.2.length (x.2.flatMap textDats))]
theorem res_nil (q a b : Nat) : Imp (.tup [.one (.cell (.slice none 0 0)), .one (.cell (.slice none 0 0)), iP q, stP a b]) (.tup (rQ ([], []) ++ [iP q, stP a b])) := Imp.tup ⟨DImp.nil 2, DImp.nil 1, PImp.refl _, PImp.refl _, trivial⟩
def resGo (l : List Tk) (tx : Bool) (n : Nat) (rs : List (Int × Int)) (ns : List (List UInt8)) (q : Nat) : Ans8 ((List (Int × Int) × List (List UInt8)) × Nat) :=
 if tx then
  match sTexts l n ns q with
  | .error e => .error e
  | .ok (ts, q) => .ok (([], ts), q)
 else
  match sRanges l n rs q with
  | .error e => .error e
  | .ok (rs, q) => .ok ((rs, []), q)
theorem isText_eq (l : List Tk) (p : Nat) : (decide ((p : Int) < (l.length : Int)) && decide (((tkAt l p).1.k : Int) = 3)) = isText l p := by
 rw [int_lt, show decide (((tkAt l p).1.k : Int) = 3) = decide ((tkAt l p).1.k = 3) from int_eq _ 3]
 unfold isText
 by_cases h : p < l.length
 ·rw [tkAt_lt h, decide_eq_true h]
  simp
 ·rw [List.getElem?_eq_none (by omega), decide_eq_false h]
  simp
theorem tkAt_nb {l : List Tk} {p : Nat} (h : (!decide ((l.length : Int) ≤ (p : Int))) = true) : l[p]? = some (tkAt l p) := tkAt_lt (by have := of_decide_eq_false (not_t h); omega)
theorem tkAt_nf {l : List Tk} {p : Nat} (h : decide ((l.length : Int) ≤ (p : Int)) = false) : l[p]? = some (tkAt l p) := tkAt_lt (by have := of_decide_eq_false h; omega)
theorem isText_or (l : List Tk) (p : Nat) : (decide ((l.length : Int) ≤ (p : Int)) || !decide (((tkAt l p).1.k : Int) = 3)) = !isText l p := by
 rw [← isText_eq, int_le, int_lt]
 by_cases h : p < l.length
 ·rw [decide_eq_true h, decide_eq_false (show ¬ l.length ≤ p by omega)]
  simp
 ·rw [decide_eq_false h, decide_eq_true (show l.length ≤ p by omega)]
  simp
theorem isText_yes {l : List Tk} {p : Nat} (h : isText l p = true) : p < l.length ∧ sText l p = .ok ((tkAt l p).1.t, p + 1) := by
 unfold isText at h
 unfold sText
 split at h
 ·cases h
 ·rename_i x hx
  rw [tkAt_of hx]
  exact ⟨(List.getElem?_eq_some_iff.1 hx).1, if_pos (of_decide_eq_true h)⟩
theorem isText_no {l : List Tk} {p : Nat} (h : isText l p = false) : sText l p = .error (p, 9) := by
 unfold isText at h
 unfold sText
 split at h
 ·rfl
 ·rename_i x hx
  exact if_neg (of_decide_eq_false h)
set_option maxRecDepth 100000 in
set_option maxHeartbeats 4000000 in
theorem reserved_y (l : List Tk) (hl : TksOk l) (p : Nat) (hp : p ≤ 100000) : EFx Tryz.prog [] 93 [tksP l, iP p] (RYb (fun x => x.1.length ≤ 100002 ∧ x.2.length ≤ 100002) rQ (sReserved l p)) := by
 refine ef_enter 119 Tryz.func93 rfl rfl rfl fun w D => ?_
 try refine e_fl ?_
 have hll := hl.len
 refine e_list ?_
 refine l_as ?_
 refine l_as ?_
 refine l_as ?_
 refine e_alloc 7 [.is (.int .i64 0), .is (.int .i64 0)] rfl rfl rfl rfl zr_102 (fun w D M V => ⟨rfl, fun j x v h1 h2 => cfit_is _ h1 h2 rfl⟩) rfl rfl rfl rfl ?_
 refine e_nil ?_
 try refine e_fl ?_
 refine e_list ?_
 refine e_made 100 rfl rfl rfl rfl sl_66 ap_66 rfl rfl ?_
 refine e_made 101 rfl rfl rfl rfl sl_49 ap_49 rfl rfl ?_
 refine l_as ?_
 refine l_as ?_
 refine e_nil ?_
 try refine e_fl ?_
 refine e_plain (w_mv rfl rfl rfl rfl rfl (w_mv rfl rfl rfl rfl rfl (w_op rfl rfl rfl (s_len rfl (kn rfl) sle_104) (w_op rfl rfl rfl (s_bin rfl (kn rfl) (kn rfl) v_lss) (w_mv rfl rfl rfl rfl rfl (Walk.gd _ rfl rfl rfl (fun h => s_move rfl (kn rfl)) (Walk.gd _ rfl rfl rfl (fun h => s_move rfl (kn rfl)) (Walk.gd _ rfl rfl rfl (fun h => s_index rfl (kn_opt rfl h) (kn_opt rfl h) (by omega) (tkAt_b (p := p) h) tkD_len sle_104 esz_104 rfl) (Walk.gd _ rfl rfl rfl (fun h => s_faddr_ref rfl (kn_opt rfl h) off_97_0) (Walk.gd _ rfl rfl rfl (fun h => s_load1_ref rfl (kn_opt rfl h) one_3) (Walk.gd _ rfl rfl rfl (fun h => s_bin rfl (kn_opt rfl h) (kn rfl) v_eql) (w_op rfl rfl rfl (s_and rfl (kn rfl) (fun hb => kn_opt rfl hb)) (w_as rfl rfl rfl rfl rfl .nil))))))))))))) ?_
 try refine e_fl ?_
 refine e_slot 10 rfl (Imp.of_eq (congrArg (fun b => IV.is (.bool b)) (isText_eq l p))) ?_
 refine e_loop (ι := { i : Nat × List (Int × Int) × List (List UInt8) × Nat // 1 ≤ i.1 ∧ l.length + 1 ≤ i.1 + i.2.2.2 ∧ i.2.2.2 ≤ 100001 ∧ i.2.1.length ≤ i.2.2.2 ∧ i.2.2.1.length ≤ i.2.2.2 ∧ (if isText l p then i.2.1 = [] else i.2.2.1 = []) ∧ sReserved l p = resGo l (isText l p) i.1 i.2.1 i.2.2.1 i.2.2.2 })
  (fun i => [(0, .part (tksP l)), (1, .is (.int .i64 (i.1.2.2.2 : Int))), (7, .box 7 0), (8, .own 100), (9, .own 101), (10, .is (.bool (isText l p)))])
  (fun i => [(7, ⟨102, [.is (.int .i64 0), .is (.int .i64 0)]⟩)])
  (fun i => [(100, ⟨114, 2, i.1.2.1.length, i.1.2.1.flatMap rangeDats, false⟩), (101, ⟨9, 1, i.1.2.2.1.length, i.1.2.2.1.flatMap textDats, false⟩)])
  (fun i => i.1.1) ⟨(l.length + 1, [], [], p), by omega, by dsimp only; omega, by dsimp only; omega, by simp, by simp, by simp, by unfold sReserved resGo; rfl⟩
  (fun K => e_sub ⟨s_t, s_t, s_t, s_t, s_t, s_t, trivial⟩ ⟨s_b, trivial⟩ ⟨rfl, rfl, trivial⟩) ?_
 rintro ⟨⟨n, rs, ns, q⟩, hn1, hn, hq, hrs, hns, hin, hw⟩
 dsimp only at hn1 hn hq hrs hns hin hw ⊢
 obtain ⟨k, rfl⟩ : ∃ k, n = k + 1 := ⟨n - 1, by omega⟩
 try refine e_fl ?_
 refine e_plain (w_mv rfl rfl rfl rfl rfl .nil) ?_
 try refine e_fl ?_
 refine e_cond rfl (fun ht => ?_) (fun ht => ?_)
 ·rw [ht] at hw hin
  obtain rfl : rs = [] := by simpa using hin
  try refine e_fl ?_
  refine e_plain (w_mv rfl rfl rfl rfl rfl (w_mv rfl rfl rfl rfl rfl (w_op rfl rfl rfl (s_len rfl (kn rfl) sle_104) (w_op rfl rfl rfl (s_bin rfl (kn rfl) (kn rfl) v_geq) (w_mv rfl rfl rfl rfl rfl (Walk.gd _ rfl rfl rfl (fun h => s_move rfl (kn rfl)) (Walk.gd _ rfl rfl rfl (fun h => s_move rfl (kn rfl)) (Walk.gd _ rfl rfl rfl (fun h => s_index rfl (kn_opt rfl h) (kn_opt rfl h) (by omega) (tkAt_nb (p := q) h) tkD_len sle_104 esz_104 rfl) (Walk.gd _ rfl rfl rfl (fun h => s_faddr_ref rfl (kn_opt rfl h) off_97_0) (Walk.gd _ rfl rfl rfl (fun h => s_load1_ref rfl (kn_opt rfl h) one_3) (Walk.gd _ rfl rfl rfl (fun h => s_bin rfl (kn_opt rfl h) (kn rfl) v_neq) (w_op rfl rfl rfl (s_or rfl (kn rfl) (fun hb => kn_opt rfl hb)) .nil)))))))))))) ?_
  try refine e_fl ?_
  refine e_cond rfl (fun h => ?_) (fun h => ?_)
  ·rw [isText_or] at h
   have he := isText_no (not_t h)
   try refine e_fl ?_
   refine e_list ?_
   refine l_mv ?_
   refine l_mv ?_
   refine l_op (s_call rfl (by kernel_rfl) (bad_ef q) ⟨(kn rfl), trivial⟩) ?_
   refine l_as ?_
   refine l_as ?_
   refine l_as ?_
   refine e_storew rfl rfl rfl (kn rfl) rfl (kn rfl) rfl rfl sz_102 ?_
   refine e_nil ?_
   try refine e_fl ?_
   exact e_return rfl rfl (.tmp (kn rfl) (.tmp (kn rfl) (.tmp (kn rfl) (.cell rfl rfl rfl agg_102 sz_102 rfl (.nil))))) (res_nil q q 9) (⟨([], []), q, q, 9, rfl, by simp, .ill (by decide) (by simp only [hw, resGo, sTexts, he]; rfl)⟩)
  ·rw [isText_or] at h
   obtain ⟨hlt, ho⟩ := isText_yes (not_f h)
   try refine e_fl ?_
   refine e_list ?_
   refine l_mv ?_
   refine l_mv ?_
   refine l_mv ?_
   refine l_op (s_index rfl (kn rfl) (kn rfl) (by omega) (tkAt_lt (p := q) hlt) tkD_len sle_104 esz_104 rfl) ?_
   refine l_op (s_faddr_ref rfl (kn rfl) off_97_1) ?_
   refine l_op (s_load1_ref rfl (kn rfl) one_9) ?_
   refine l_op (s_buildSlice (ds := [_]) [(0, _)] rfl ⟨rfl, (kn rfl), trivial⟩ rfl sl_49 sz_9 zr_9 (fun w D => .cons (.cell _) (.nil _ _)) rfl rfl rfl rfl rfl) ?_
   refine e_append rfl rfl rfl rfl (kn rfl) rfl (kn rfl) sl_49 ap_49 rfl rfl (by first | omega | (dsimp only; omega) | omega) (by first | omega | (dsimp only; omega) | omega) ?_
   refine l_as ?_
   refine e_nil ?_
   try refine e_fl ?_
   refine e_plain (w_mv rfl rfl rfl rfl rfl (w_op rfl rfl rfl (s_bin rfl (kn rfl) (kn rfl) (v_add64 (by first | omega | (dsimp only; omega) | omega))) (w_as rfl rfl rfl rfl rfl .nil))) ?_
   try refine e_fl ?_
   refine e_plain (w_mv rfl rfl rfl rfl rfl (w_mv rfl rfl rfl rfl rfl (w_op rfl rfl rfl (s_call rfl (by kernel_rfl) (is_ef l (q + 1) 4 [44]) ⟨(kn rfl), ⟨(kn rfl), ⟨(kn rfl), ⟨(kn rfl), trivial⟩⟩⟩⟩) (w_op rfl rfl rfl (s_not rfl (kn rfl)) .nil)))) ?_
   try refine e_fl ?_
   refine e_cond rfl (fun h => ?_) (fun h => ?_)
   ·have hc := not_t h
    try refine e_fl ?_
    refine e_list ?_
    refine l_mv ?_
    refine l_mv ?_
    refine l_op (s_buildSlice (ds := [_]) [(0, _)] rfl ⟨rfl, (kn rfl), trivial⟩ rfl sl_49 sz_9 zr_9 (fun w D => .cons (.cell _) (.nil _ _)) rfl rfl rfl rfl rfl) ?_
    refine e_list_call rfl rfl rfl rfl (by kernel_rfl) (want1 l hl 4 [59] rfl (by simp) (q + 1) (by omega)) ⟨(kn rfl), ⟨(kn rfl), ⟨(kn rfl), trivial⟩⟩⟩ ?_
    rintro _ ⟨z, a, b, rfl, hr⟩
    refine l_mv ?_
    refine l_ex ?_
    refine l_ex ?_
    refine e_alloc 16 [.is (.int .i64 0), .is (.int .i64 0)] rfl rfl rfl rfl zr_102 (fun w D M V => ⟨rfl, fun j x v h1 h2 => cfit_is _ h1 h2 rfl⟩) rfl rfl rfl rfl ?_
    refine l_as ?_
    refine e_storew rfl rfl rfl (kn rfl) rfl (kn rfl) rfl rfl sz_102 ?_
    refine e_nil ?_
    try refine e_fl ?_
    refine e_draw_mix [(7, _)] mixed (by kernel_rfl) (WalkM.op rfl rfl rfl (s_move rfl (kn rfl)) (WalkM.op rfl rfl rfl (s_move rfl (kn rfl)) (WalkM.op rfl rfl rfl (s_move rfl (kn rfl)) (WalkM.op rfl rfl rfl (s_loadn_box (ds := [_, _]) 2 rfl (kn rfl) rfl rfl agg_102 sz_102 rfl) (WalkM.op rfl rfl rfl (s_assign rfl (kn rfl)) (WalkM.op rfl rfl rfl (s_assign rfl (kn rfl)) (WalkM.op rfl rfl rfl (s_assign rfl (kn rfl)) (WalkM.stw rfl rfl rfl (kn rfl) rfl rfl (kn rfl) rfl rfl rfl sz_102 (WalkM.nil))))))))) rfl ?_
    try refine e_fl ?_
    refine e_freeze_slot 4 100 rfl rfl rfl ?_
    refine e_freeze_slot 5 101 rfl rfl rfl ?_
    exact e_return rfl rfl (.tmp (kn rfl) (.tmp (kn rfl) (.tmp (kn rfl) (.cell rfl rfl rfl agg_102 sz_102 rfl (.nil))))) (Imp.tup (qs := rQ ([], ns ++ [(tkAt l q).1.t]) ++ [iP z, stP a b]) ⟨DImp.of_eq (by first | rfl | simp [List.flatMap_append, rangeDats, textDats]), DImp.of_eq (by first | rfl | simp [List.flatMap_append, rangeDats, textDats]), PImp.refl _, PImp.refl _, trivial⟩) (⟨([], ns ++ [(tkAt l q).1.t]), z, a, b, rfl, ⟨by simp only [List.length_append, List.length_cons, List.length_nil]; omega, by simp only [List.length_append, List.length_cons, List.length_nil]; omega⟩, hr.next (fun h => by simp [hw, resGo, sTexts, ho, hc, h]) (fun h => by simp [hw, resGo, sTexts, ho, hc, h])⟩)
   ·have hc := not_f h
    have hlt := tkIs_lt hc
    try refine e_fl ?_
    refine e_plain (w_mv rfl rfl rfl rfl rfl (w_op rfl rfl rfl (s_bin rfl (kn rfl) (kn rfl) (v_add64 (by first | omega | (dsimp only; omega) | omega))) (w_as rfl rfl rfl rfl rfl .nil))) ?_
    try refine e_fl ?_
    refine e_again ⟨(k, [], ns ++ [(tkAt l q).1.t], q + 1 + 1), by omega, by dsimp only; omega, by dsimp only; omega, by dsimp only; simp only [List.length_append, List.length_cons, List.length_nil]; omega, by dsimp only; simp only [List.length_append, List.length_cons, List.length_nil]; omega, by simp [ht], by simp [hw, resGo, sTexts, ho, hc, ht]⟩ (by dsimp only; omega) (fun K => e_sub ⟨s_t, s_t, s_t, s_t, s_t, s_t, trivial⟩ ⟨s_b, trivial⟩ ⟨by first | rfl | exact rowEq rfl (by simp) (by simp [List.flatMap_append, rangeDats, textDats]), by first | rfl | exact rowEq rfl (by simp) (by simp [List.flatMap_append, rangeDats, textDats]), trivial⟩)
 ·rw [ht] at hw hin
  obtain rfl : ns = [] := by simpa using hin
  try refine e_fl ?_
  refine e_list ?_
  refine l_mv ?_
  refine l_mv ?_
  refine e_list_call rfl rfl rfl rfl (by kernel_rfl) (number_y l hl q) ⟨(kn rfl), ⟨(kn rfl), trivial⟩⟩ ?_
  rintro _ ⟨n0, r, a, b, rfl, hr⟩
  refine l_mv ?_
  refine l_ex ?_
  refine l_ex ?_
  refine l_ex ?_
  refine e_alloc 13 [.is (.int .i64 0), .is (.int .i64 0)] rfl rfl rfl rfl zr_102 (fun w D M V => ⟨rfl, fun j x v h1 h2 => cfit_is _ h1 h2 rfl⟩) rfl rfl rfl rfl ?_
  refine l_as ?_
  refine l_as ?_
  refine e_storew rfl rfl rfl (kn rfl) rfl (kn rfl) rfl rfl sz_102 ?_
  refine e_nil ?_
  try refine e_fl ?_
  refine e_plain (w_op rfl rfl rfl (s_faddr_box rfl (kn rfl) off_102_1) (w_op rfl rfl rfl (s_load1_box rfl (kn rfl) rfl rfl one_3) (w_op rfl rfl rfl (s_bin rfl (kn rfl) (kn rfl) v_neq) .nil))) ?_
  try refine e_fl ?_
  refine e_cond rfl (fun h => ?_) (fun h => ?_)
  ·obtain ⟨hb, he⟩ := hr.bad h
   try refine e_fl ?_
   refine e_draw_mix [(7, _)] mixed (by kernel_rfl) (WalkM.op rfl rfl rfl (s_move rfl (kn rfl)) (WalkM.op rfl rfl rfl (s_loadn_box (ds := [_, _]) 2 rfl (kn rfl) rfl rfl agg_102 sz_102 rfl) (WalkM.op rfl rfl rfl (s_assign rfl (kn rfl)) (WalkM.op rfl rfl rfl (s_assign rfl (kn rfl)) (WalkM.op rfl rfl rfl (s_assign rfl (kn rfl)) (WalkM.stw rfl rfl rfl (kn rfl) rfl rfl (kn rfl) rfl rfl rfl sz_102 (WalkM.nil))))))) rfl ?_
   try refine e_fl ?_
   exact e_return rfl rfl (.tmp (kn rfl) (.tmp (kn rfl) (.tmp (kn rfl) (.cell rfl rfl rfl agg_102 sz_102 rfl (.nil))))) (res_nil (q) a b) (⟨([], []), q, a, b, rfl, by simp, .ill hb (by simp only [hw, resGo, sRanges, sRange, he]; rfl)⟩)
  obtain ⟨rfl, rfl, hn0⟩ := hr.ok h
  try refine e_fl ?_
  have hn2 := sNumber_ok hn0
  refine e_list ?_
  refine l_mv ?_
  refine l_mv ?_
  refine l_op (s_build (ds := [_, _]) [(0, _), (1, _)] rfl ⟨rfl, (kn rfl), ⟨rfl, (kn rfl), trivial⟩⟩ rfl pl_114 zr_114 (fun w D => .cons (.cell _) (.cons (.cell _) (.nil _ _))) rfl) ?_
  refine e_alloc 14 [.is (.int .i64 0), .is (.int .i64 0)] rfl rfl rfl rfl zr_114 (fun w D M V => ⟨rfl, fun j x v h1 h2 => cfit_is _ h1 h2 rfl⟩) rfl rfl rfl rfl ?_
  refine e_storew rfl rfl rfl (kn rfl) rfl (kn rfl) rfl rfl sz_114 ?_
  refine e_nil ?_
  try refine e_fl ?_
  refine e_plain (w_mv rfl rfl rfl rfl rfl (w_as rfl rfl rfl rfl rfl .nil)) ?_
  try refine e_fl ?_
  refine e_plain (w_mv rfl rfl rfl rfl rfl (w_mv rfl rfl rfl rfl rfl (w_op rfl rfl rfl (s_call rfl (by kernel_rfl) (is_ef l r 1 [116, 111]) ⟨(kn rfl), ⟨(kn rfl), ⟨(kn rfl), ⟨(kn rfl), trivial⟩⟩⟩⟩) .nil))) ?_
  try refine e_fl ?_
  refine e_cond rfl (fun hto => ?_) (fun hto => ?_)
  ·have hlt1 := tkIs_lt hto
   try refine e_fl ?_
   refine e_plain (w_mv rfl rfl rfl rfl rfl (w_op rfl rfl rfl (s_bin rfl (kn rfl) (kn rfl) (v_add64 (by first | omega | (dsimp only; omega) | omega))) (w_as rfl rfl rfl rfl rfl .nil))) ?_
   try refine e_fl ?_
   refine e_plain (w_mv rfl rfl rfl rfl rfl (w_mv rfl rfl rfl rfl rfl (w_op rfl rfl rfl (s_call rfl (by kernel_rfl) (is_ef l (r + 1) 1 [109, 97, 120]) ⟨(kn rfl), ⟨(kn rfl), ⟨(kn rfl), ⟨(kn rfl), trivial⟩⟩⟩⟩) .nil))) ?_
   try refine e_fl ?_
   refine e_cond rfl (fun hm => ?_) (fun hm => ?_)
   ·have hlt2 := tkIs_lt hm
    have hrg : sRange l q = .ok ((n0, 536870911), r + 1 + 1) := by simp only [sRange, hn0, hto, hm, if_true]
    try refine e_fl ?_
    refine e_list ?_
    refine l_op (s_faddr_box rfl (kn rfl) off_114_1) ?_
    refine e_store1 rfl rfl rfl (kn rfl) rfl (kn rfl) rfl rfl sz_3 rfl ?_
    refine e_nil ?_
    try refine e_fl ?_
    refine e_plain (w_mv rfl rfl rfl rfl rfl (w_op rfl rfl rfl (s_bin rfl (kn rfl) (kn rfl) (v_add64 (by first | omega | (dsimp only; omega) | omega))) (w_as rfl rfl rfl rfl rfl .nil))) ?_
    try refine e_fl ?_
    refine e_list ?_
    refine l_mv ?_
    refine l_op (s_loadn_box (ds := [_, _]) 2 rfl (kn rfl) rfl rfl agg_114 sz_114 rfl) ?_
    refine l_op (s_buildSlice (ds := [_, _]) [(0, _)] rfl ⟨rfl, (kn rfl), trivial⟩ rfl sl_66 sz_114 zr_114 (fun w D => .cons (.cell _) (.cons (.cell _) (.nil _ _))) rfl rfl rfl rfl rfl) ?_
    refine e_append rfl rfl rfl rfl (kn rfl) rfl (kn rfl) sl_66 ap_66 rfl rfl (by first | omega | (dsimp only; omega) | omega) (by first | omega | (dsimp only; omega) | omega) ?_
    refine l_as ?_
    refine e_nil ?_
    try refine e_fl ?_
    refine e_plain (w_mv rfl rfl rfl rfl rfl (w_mv rfl rfl rfl rfl rfl (w_op rfl rfl rfl (s_call rfl (by kernel_rfl) (is_ef l (r + 1 + 1) 4 [44]) ⟨(kn rfl), ⟨(kn rfl), ⟨(kn rfl), ⟨(kn rfl), trivial⟩⟩⟩⟩) (w_op rfl rfl rfl (s_not rfl (kn rfl)) .nil)))) ?_
    try refine e_fl ?_
    refine e_cond rfl (fun h => ?_) (fun h => ?_)
    ·have hc := not_t h
     try refine e_fl ?_
     refine e_list ?_
     refine l_mv ?_
     refine l_mv ?_
     refine l_op (s_buildSlice (ds := [_]) [(0, _)] rfl ⟨rfl, (kn rfl), trivial⟩ rfl sl_49 sz_9 zr_9 (fun w D => .cons (.cell _) (.nil _ _)) rfl rfl rfl rfl rfl) ?_
     refine e_list_call rfl rfl rfl rfl (by kernel_rfl) (want1 l hl 4 [59] rfl (by simp) (r + 1 + 1) (by omega)) ⟨(kn rfl), ⟨(kn rfl), ⟨(kn rfl), trivial⟩⟩⟩ ?_
     rintro _ ⟨z, a, b, rfl, hr⟩
     refine l_mv ?_
     refine l_ex ?_
     refine l_ex ?_
     refine e_alloc 16 [.is (.int .i64 0), .is (.int .i64 0)] rfl rfl rfl rfl zr_102 (fun w D M V => ⟨rfl, fun j x v h1 h2 => cfit_is _ h1 h2 rfl⟩) rfl rfl rfl rfl ?_
     refine l_as ?_
     refine e_storew rfl rfl rfl (kn rfl) rfl (kn rfl) rfl rfl sz_102 ?_
     refine e_nil ?_
     try refine e_fl ?_
     refine e_draw_mix [(7, _)] mixed (by kernel_rfl) (WalkM.op rfl rfl rfl (s_move rfl (kn rfl)) (WalkM.op rfl rfl rfl (s_move rfl (kn rfl)) (WalkM.op rfl rfl rfl (s_move rfl (kn rfl)) (WalkM.op rfl rfl rfl (s_loadn_box (ds := [_, _]) 2 rfl (kn rfl) rfl rfl agg_102 sz_102 rfl) (WalkM.op rfl rfl rfl (s_assign rfl (kn rfl)) (WalkM.op rfl rfl rfl (s_assign rfl (kn rfl)) (WalkM.op rfl rfl rfl (s_assign rfl (kn rfl)) (WalkM.stw rfl rfl rfl (kn rfl) rfl rfl (kn rfl) rfl rfl rfl sz_102 (WalkM.nil))))))))) rfl ?_
     try refine e_fl ?_
     refine e_freeze_slot 4 100 rfl rfl rfl ?_
     refine e_freeze_slot 5 101 rfl rfl rfl ?_
     exact e_return rfl rfl (.tmp (kn rfl) (.tmp (kn rfl) (.tmp (kn rfl) (.cell rfl rfl rfl agg_102 sz_102 rfl (.nil))))) (Imp.tup (qs := rQ (rs ++ [(n0, 536870911)], []) ++ [iP z, stP a b]) ⟨DImp.of_eq (by first | rfl | simp [List.flatMap_append, rangeDats, textDats]), DImp.of_eq (by first | rfl | simp [List.flatMap_append, rangeDats, textDats]), PImp.refl _, PImp.refl _, trivial⟩) (⟨(rs ++ [(n0, 536870911)], []), z, a, b, rfl, ⟨by simp only [List.length_append, List.length_cons, List.length_nil]; omega, by simp only [List.length_append, List.length_cons, List.length_nil]; omega⟩, hr.next (fun h => by simp [hw, resGo, sRanges, hrg, hc, h]) (fun h => by simp [hw, resGo, sRanges, hrg, hc, h])⟩)
    ·have hc := not_f h
     have hlt := tkIs_lt hc
     try refine e_fl ?_
     refine e_plain (w_mv rfl rfl rfl rfl rfl (w_op rfl rfl rfl (s_bin rfl (kn rfl) (kn rfl) (v_add64 (by first | omega | (dsimp only; omega) | omega))) (w_as rfl rfl rfl rfl rfl .nil))) ?_
     try refine e_fl ?_
     refine e_again ⟨(k, rs ++ [(n0, 536870911)], [], r + 1 + 1 + 1), by omega, by dsimp only; omega, by dsimp only; omega, by dsimp only; simp only [List.length_append, List.length_cons, List.length_nil]; omega, by dsimp only; simp only [List.length_append, List.length_cons, List.length_nil]; omega, by simp [ht], by simp [hw, resGo, sRanges, hrg, hc, ht]⟩ (by dsimp only; omega) (fun K => e_sub ⟨s_t, s_t, s_t, s_t, s_t, s_t, trivial⟩ ⟨s_b, trivial⟩ ⟨by first | rfl | exact rowEq rfl (by simp) (by simp [List.flatMap_append, rangeDats, textDats]), by first | rfl | exact rowEq rfl (by simp) (by simp [List.flatMap_append, rangeDats, textDats]), trivial⟩)
   ·try refine e_fl ?_
    refine e_list ?_
    refine l_mv ?_
    refine l_mv ?_
    refine e_list_call rfl rfl rfl rfl (by kernel_rfl) (number_y l hl (r + 1)) ⟨(kn rfl), ⟨(kn rfl), trivial⟩⟩ ?_
    rintro _ ⟨m0, s, a, b, rfl, hr⟩
    refine l_mv ?_
    refine l_ex ?_
    refine l_ex ?_
    refine l_ex ?_
    refine l_op (s_faddr_box rfl (kn rfl) off_114_1) ?_
    refine e_store1 rfl rfl rfl (kn rfl) rfl (kn rfl) rfl rfl sz_3 rfl ?_
    refine l_as ?_
    refine e_storew rfl rfl rfl (kn rfl) rfl (kn rfl) rfl rfl sz_102 ?_
    refine e_nil ?_
    try refine e_fl ?_
    refine e_plain (w_op rfl rfl rfl (s_faddr_box rfl (kn rfl) off_102_1) (w_op rfl rfl rfl (s_load1_box rfl (kn rfl) rfl rfl one_3) (w_op rfl rfl rfl (s_bin rfl (kn rfl) (kn rfl) v_neq) .nil))) ?_
    try refine e_fl ?_
    refine e_cond rfl (fun h => ?_) (fun h => ?_)
    ·obtain ⟨hb, he⟩ := hr.bad h
     try refine e_fl ?_
     refine e_draw_mix [(7, _)] mixed (by kernel_rfl) (WalkM.op rfl rfl rfl (s_move rfl (kn rfl)) (WalkM.op rfl rfl rfl (s_loadn_box (ds := [_, _]) 2 rfl (kn rfl) rfl rfl agg_102 sz_102 rfl) (WalkM.op rfl rfl rfl (s_assign rfl (kn rfl)) (WalkM.op rfl rfl rfl (s_assign rfl (kn rfl)) (WalkM.op rfl rfl rfl (s_assign rfl (kn rfl)) (WalkM.stw rfl rfl rfl (kn rfl) rfl rfl (kn rfl) rfl rfl rfl sz_102 (WalkM.nil))))))) rfl ?_
     try refine e_fl ?_
     exact e_return rfl rfl (.tmp (kn rfl) (.tmp (kn rfl) (.tmp (kn rfl) (.cell rfl rfl rfl agg_102 sz_102 rfl (.nil))))) (res_nil (r + 1) a b) (⟨([], []), r + 1, a, b, rfl, by simp, .ill hb (by simp only [hw, resGo, sRanges, sRange, hn0, hto, hm, if_true, he]; rfl)⟩)
    obtain ⟨rfl, rfl, hm0⟩ := hr.ok h
    try refine e_fl ?_
    have hn3 := sNumber_ok hm0
    have hrg : sRange l q = .ok ((n0, m0), s) := by simp only [sRange, hn0, hto, hm, hm0, if_true]; rfl
    refine e_plain (w_mv rfl rfl rfl rfl rfl (w_as rfl rfl rfl rfl rfl .nil)) ?_
    try refine e_fl ?_
    refine e_list ?_
    refine l_mv ?_
    refine l_op (s_loadn_box (ds := [_, _]) 2 rfl (kn rfl) rfl rfl agg_114 sz_114 rfl) ?_
    refine l_op (s_buildSlice (ds := [_, _]) [(0, _)] rfl ⟨rfl, (kn rfl), trivial⟩ rfl sl_66 sz_114 zr_114 (fun w D => .cons (.cell _) (.cons (.cell _) (.nil _ _))) rfl rfl rfl rfl rfl) ?_
    refine e_append rfl rfl rfl rfl (kn rfl) rfl (kn rfl) sl_66 ap_66 rfl rfl (by first | omega | (dsimp only; omega) | omega) (by first | omega | (dsimp only; omega) | omega) ?_
    refine l_as ?_
    refine e_nil ?_
    try refine e_fl ?_
    refine e_plain (w_mv rfl rfl rfl rfl rfl (w_mv rfl rfl rfl rfl rfl (w_op rfl rfl rfl (s_call rfl (by kernel_rfl) (is_ef l (s) 4 [44]) ⟨(kn rfl), ⟨(kn rfl), ⟨(kn rfl), ⟨(kn rfl), trivial⟩⟩⟩⟩) (w_op rfl rfl rfl (s_not rfl (kn rfl)) .nil)))) ?_
    try refine e_fl ?_
    refine e_cond rfl (fun h => ?_) (fun h => ?_)
    ·have hc := not_t h
     try refine e_fl ?_
     refine e_list ?_
     refine l_mv ?_
     refine l_mv ?_
     refine l_op (s_buildSlice (ds := [_]) [(0, _)] rfl ⟨rfl, (kn rfl), trivial⟩ rfl sl_49 sz_9 zr_9 (fun w D => .cons (.cell _) (.nil _ _)) rfl rfl rfl rfl rfl) ?_
     refine e_list_call rfl rfl rfl rfl (by kernel_rfl) (want1 l hl 4 [59] rfl (by simp) (s) (by omega)) ⟨(kn rfl), ⟨(kn rfl), ⟨(kn rfl), trivial⟩⟩⟩ ?_
     rintro _ ⟨z, a, b, rfl, hr⟩
     refine l_mv ?_
     refine l_ex ?_
     refine l_ex ?_
     refine e_alloc 16 [.is (.int .i64 0), .is (.int .i64 0)] rfl rfl rfl rfl zr_102 (fun w D M V => ⟨rfl, fun j x v h1 h2 => cfit_is _ h1 h2 rfl⟩) rfl rfl rfl rfl ?_
     refine l_as ?_
     refine e_storew rfl rfl rfl (kn rfl) rfl (kn rfl) rfl rfl sz_102 ?_
     refine e_nil ?_
     try refine e_fl ?_
     refine e_draw_mix [(7, _)] mixed (by kernel_rfl) (WalkM.op rfl rfl rfl (s_move rfl (kn rfl)) (WalkM.op rfl rfl rfl (s_move rfl (kn rfl)) (WalkM.op rfl rfl rfl (s_move rfl (kn rfl)) (WalkM.op rfl rfl rfl (s_loadn_box (ds := [_, _]) 2 rfl (kn rfl) rfl rfl agg_102 sz_102 rfl) (WalkM.op rfl rfl rfl (s_assign rfl (kn rfl)) (WalkM.op rfl rfl rfl (s_assign rfl (kn rfl)) (WalkM.op rfl rfl rfl (s_assign rfl (kn rfl)) (WalkM.stw rfl rfl rfl (kn rfl) rfl rfl (kn rfl) rfl rfl rfl sz_102 (WalkM.nil))))))))) rfl ?_
     try refine e_fl ?_
     refine e_freeze_slot 4 100 rfl rfl rfl ?_
     refine e_freeze_slot 5 101 rfl rfl rfl ?_
     exact e_return rfl rfl (.tmp (kn rfl) (.tmp (kn rfl) (.tmp (kn rfl) (.cell rfl rfl rfl agg_102 sz_102 rfl (.nil))))) (Imp.tup (qs := rQ (rs ++ [(n0, m0)], []) ++ [iP z, stP a b]) ⟨DImp.of_eq (by first | rfl | simp [List.flatMap_append, rangeDats, textDats]), DImp.of_eq (by first | rfl | simp [List.flatMap_append, rangeDats, textDats]), PImp.refl _, PImp.refl _, trivial⟩) (⟨(rs ++ [(n0, m0)], []), z, a, b, rfl, ⟨by simp only [List.length_append, List.length_cons, List.length_nil]; omega, by simp only [List.length_append, List.length_cons, List.length_nil]; omega⟩, hr.next (fun h => by simp [hw, resGo, sRanges, hrg, hc, h]) (fun h => by simp [hw, resGo, sRanges, hrg, hc, h])⟩)
    ·have hc := not_f h
     have hlt := tkIs_lt hc
     try refine e_fl ?_
     refine e_plain (w_mv rfl rfl rfl rfl rfl (w_op rfl rfl rfl (s_bin rfl (kn rfl) (kn rfl) (v_add64 (by first | omega | (dsimp only; omega) | omega))) (w_as rfl rfl rfl rfl rfl .nil))) ?_
     try refine e_fl ?_
     refine e_again ⟨(k, rs ++ [(n0, m0)], [], s + 1), by omega, by dsimp only; omega, by dsimp only; omega, by dsimp only; simp only [List.length_append, List.length_cons, List.length_nil]; omega, by dsimp only; simp only [List.length_append, List.length_cons, List.length_nil]; omega, by simp [ht], by simp [hw, resGo, sRanges, hrg, hc, ht]⟩ (by dsimp only; omega) (fun K => e_sub ⟨s_t, s_t, s_t, s_t, s_t, s_t, trivial⟩ ⟨s_b, trivial⟩ ⟨by first | rfl | exact rowEq rfl (by simp) (by simp [List.flatMap_append, rangeDats, textDats]), by first | rfl | exact rowEq rfl (by simp) (by simp [List.flatMap_append, rangeDats, textDats]), trivial⟩)
  ·have hrg : sRange l q = .ok ((n0, n0), r) := by simp only [sRange, hn0, hto]; rfl
   try refine e_fl ?_
   refine e_list ?_
   refine l_mv ?_
   refine l_op (s_loadn_box (ds := [_, _]) 2 rfl (kn rfl) rfl rfl agg_114 sz_114 rfl) ?_
   refine l_op (s_buildSlice (ds := [_, _]) [(0, _)] rfl ⟨rfl, (kn rfl), trivial⟩ rfl sl_66 sz_114 zr_114 (fun w D => .cons (.cell _) (.cons (.cell _) (.nil _ _))) rfl rfl rfl rfl rfl) ?_
   refine e_append rfl rfl rfl rfl (kn rfl) rfl (kn rfl) sl_66 ap_66 rfl rfl (by first | omega | (dsimp only; omega) | omega) (by first | omega | (dsimp only; omega) | omega) ?_
   refine l_as ?_
   refine e_nil ?_
   try refine e_fl ?_
   refine e_plain (w_mv rfl rfl rfl rfl rfl (w_mv rfl rfl rfl rfl rfl (w_op rfl rfl rfl (s_call rfl (by kernel_rfl) (is_ef l (r) 4 [44]) ⟨(kn rfl), ⟨(kn rfl), ⟨(kn rfl), ⟨(kn rfl), trivial⟩⟩⟩⟩) (w_op rfl rfl rfl (s_not rfl (kn rfl)) .nil)))) ?_
   try refine e_fl ?_
   refine e_cond rfl (fun h => ?_) (fun h => ?_)
   ·have hc := not_t h
    try refine e_fl ?_
    refine e_list ?_
    refine l_mv ?_
    refine l_mv ?_
    refine l_op (s_buildSlice (ds := [_]) [(0, _)] rfl ⟨rfl, (kn rfl), trivial⟩ rfl sl_49 sz_9 zr_9 (fun w D => .cons (.cell _) (.nil _ _)) rfl rfl rfl rfl rfl) ?_
    refine e_list_call rfl rfl rfl rfl (by kernel_rfl) (want1 l hl 4 [59] rfl (by simp) (r) (by omega)) ⟨(kn rfl), ⟨(kn rfl), ⟨(kn rfl), trivial⟩⟩⟩ ?_
    rintro _ ⟨z, a, b, rfl, hr⟩
    refine l_mv ?_
    refine l_ex ?_
    refine l_ex ?_
    refine e_alloc 16 [.is (.int .i64 0), .is (.int .i64 0)] rfl rfl rfl rfl zr_102 (fun w D M V => ⟨rfl, fun j x v h1 h2 => cfit_is _ h1 h2 rfl⟩) rfl rfl rfl rfl ?_
    refine l_as ?_
    refine e_storew rfl rfl rfl (kn rfl) rfl (kn rfl) rfl rfl sz_102 ?_
    refine e_nil ?_
    try refine e_fl ?_
    refine e_draw_mix [(7, _)] mixed (by kernel_rfl) (WalkM.op rfl rfl rfl (s_move rfl (kn rfl)) (WalkM.op rfl rfl rfl (s_move rfl (kn rfl)) (WalkM.op rfl rfl rfl (s_move rfl (kn rfl)) (WalkM.op rfl rfl rfl (s_loadn_box (ds := [_, _]) 2 rfl (kn rfl) rfl rfl agg_102 sz_102 rfl) (WalkM.op rfl rfl rfl (s_assign rfl (kn rfl)) (WalkM.op rfl rfl rfl (s_assign rfl (kn rfl)) (WalkM.op rfl rfl rfl (s_assign rfl (kn rfl)) (WalkM.stw rfl rfl rfl (kn rfl) rfl rfl (kn rfl) rfl rfl rfl sz_102 (WalkM.nil))))))))) rfl ?_
    try refine e_fl ?_
    refine e_freeze_slot 4 100 rfl rfl rfl ?_
    refine e_freeze_slot 5 101 rfl rfl rfl ?_
    exact e_return rfl rfl (.tmp (kn rfl) (.tmp (kn rfl) (.tmp (kn rfl) (.cell rfl rfl rfl agg_102 sz_102 rfl (.nil))))) (Imp.tup (qs := rQ (rs ++ [(n0, n0)], []) ++ [iP z, stP a b]) ⟨DImp.of_eq (by first | rfl | simp [List.flatMap_append, rangeDats, textDats]), DImp.of_eq (by first | rfl | simp [List.flatMap_append, rangeDats, textDats]), PImp.refl _, PImp.refl _, trivial⟩) (⟨(rs ++ [(n0, n0)], []), z, a, b, rfl, ⟨by simp only [List.length_append, List.length_cons, List.length_nil]; omega, by simp only [List.length_append, List.length_cons, List.length_nil]; omega⟩, hr.next (fun h => by simp [hw, resGo, sRanges, hrg, hc, h]) (fun h => by simp [hw, resGo, sRanges, hrg, hc, h])⟩)
   ·have hc := not_f h
    have hlt := tkIs_lt hc
    try refine e_fl ?_
    refine e_plain (w_mv rfl rfl rfl rfl rfl (w_op rfl rfl rfl (s_bin rfl (kn rfl) (kn rfl) (v_add64 (by first | omega | (dsimp only; omega) | omega))) (w_as rfl rfl rfl rfl rfl .nil))) ?_
    try refine e_fl ?_
    refine e_again ⟨(k, rs ++ [(n0, n0)], [], r + 1), by omega, by dsimp only; omega, by dsimp only; omega, by dsimp only; simp only [List.length_append, List.length_cons, List.length_nil]; omega, by dsimp only; simp only [List.length_append, List.length_cons, List.length_nil]; omega, by simp [ht], by simp [hw, resGo, sRanges, hrg, hc, ht]⟩ (by dsimp only; omega) (fun K => e_sub ⟨s_t, s_t, s_t, s_t, s_t, s_t, trivial⟩ ⟨s_b, trivial⟩ ⟨by first | rfl | exact rowEq rfl (by simp) (by simp [List.flatMap_append, rangeDats, textDats]), by first | rfl | exact rowEq rfl (by simp) (by simp [List.flatMap_append, rangeDats, textDats]), trivial⟩)
end Go.Proofs.YtfcjeciepadmeaaGreatDoor
