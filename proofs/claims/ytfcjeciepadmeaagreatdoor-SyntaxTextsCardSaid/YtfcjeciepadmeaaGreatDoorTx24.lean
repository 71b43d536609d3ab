/- Part 24 of what the last text of this claim is proved by: walks over the program, and the math behind them. Conditions: as each theorem says. -/
import Derived.Test.YtfcjeciepadmeaaGreatDoorTx23
import Derived.Test.YtfcjeciepadmeaaGreatDoorProg
namespace Go.Proofs.YtfcjeciepadmeaaGreatDoor
open Go.RowKit
abbrev FQ (f : Fil) : Part := .many f.dats
def FY (r : Ans8 Fil) (y : IV) : Prop := ∃ (f : Fil) (a b : Nat), y = .tup [FQ f, stP a b] ∧ Res r f a b
abbrev wSyntax : List UInt8 := [115, 121, 110, 116, 97, 120]
abbrev wProto3 : List UInt8 := [112, 114, 111, 116, 111, 51]
theorem sWants_two (l : List Tk) (s t : List UInt8) (p : Nat) : sWants l [s, t] p = (match sWant l (kindT s) s p with | .error e => .error e | .ok q => sWant l (kindT t) t q) := by
 rw [sWants]
 cases sWant l (kindT s) s p with
 | error e => rfl
 | ok q => exact sWants_one l t q
theorem sFile_bad {l : List Tk} {e : Nat × Nat} (h : sWants l [wSyntax, [61]] 0 = .error e) : sFile l = .error e := by
 rw [sWants_two] at h
 change (match sWant l 1 wSyntax 0 with | .error e => (.error e : Ans8 Nat) | .ok q => sWant l 4 [61] q) = _ at h
 unfold sFile
 cases h1 : sWant l 1 wSyntax 0 with
 | error e' =>
  rw [h1] at h
  cases h
  rfl
 | ok q =>
  rw [h1] at h
  dsimp only at h
  simp only [h1, h]
abbrev sHeadBehind (l : List Tk) (q : Nat) : Ans8 Fil :=
   match sText l q with
   | .error e => .error e
   | .ok (t, r) =>
    if t = [112, 114, 111, 116, 111, 51] then
     match sWant l 4 [59] r with
     | .error e => .error e
     | .ok s =>
      match sPackage l s with
      | .error e => .error e
      | .ok (pk, u) => sParts l (l.length + 1) ⟨pk, [], []⟩ u
    else form8 q
theorem sFile_ok {l : List Tk} {q : Nat} (h : sWants l [wSyntax, [61]] 0 = .ok q) : sFile l = sHeadBehind l q ∧ q ≤ l.length := by
 rw [sWants_two] at h
 change (match sWant l 1 wSyntax 0 with | .error e => (.error e : Ans8 Nat) | .ok q => sWant l 4 [61] q) = _ at h
 unfold sFile
 cases h1 : sWant l 1 wSyntax 0 with
 | error e' =>
  rw [h1] at h
  cases h
 | ok q' =>
  rw [h1] at h
  dsimp only at h
  have := sWant_ok h
  exact ⟨by simp only [h1, h]; rfl, by omega⟩
theorem tkAt_nb2 {l : List Tk} {p : Nat} {b : Bool} (h : (!(decide ((l.length : Int) ≤ (p : Int)) || b)) = true) : l[p]? = some (tkAt l p) := by
 cases h1 : decide ((l.length : Int) ≤ (p : Int))
 ·exact tkAt_nf h1
 ·rw [h1] at h
  cases h
theorem proto_or {l : List Tk} {q : Nat} (h : ((decide ((l.length : Int) ≤ (q : Int)) || !decide (((tkAt l q).1.k : Int) = 3)) || !decide ((tkAt l q).1.t = wProto3)) = true) : sHeadBehind l q = .error (q, 9) := by
 rw [isText_or] at h
 cases h1 : isText l q
 ·have h2 := isText_no h1
  simp only [sHeadBehind, h2]
 ·obtain ⟨_, h2⟩ := isText_yes h1
  rw [h1] at h
  have h3 : ¬ (tkAt l q).1.t = wProto3 := by simpa using h
  simp only [sHeadBehind, h2, if_neg h3]
  rfl
theorem proto_yes {l : List Tk} {q : Nat} (h : ((decide ((l.length : Int) ≤ (q : Int)) || !decide (((tkAt l q).1.k : Int) = 3)) || !decide ((tkAt l q).1.t = wProto3)) = false) : q < l.length ∧ sText l q = .ok (wProto3, q + 1) := by
 rw [isText_or] at h
 cases h1 : isText l q
 ·rw [h1] at h
  cases h
 ·obtain ⟨h0, h2⟩ := isText_yes h1
  rw [h1] at h
  have h3 : (tkAt l q).1.t = wProto3 := by simpa using h
  rw [h3] at h2
  exact ⟨h0, h2⟩
theorem file_imp {f : Fil} {c d1 d2 : Dat} {p : Part} (h0 : c = .cell (.string (str f.package))) (h1 : DImp d1 (.row 9 f.msgs.length (f.msgs.flatMap Msg.dats))) (h2 : DImp d2 (.row 4 f.enums.length (f.enums.flatMap Enm.dats))) : Imp (.tup [.many [c, d1, d2], p]) (.tup [FQ f, p]) := Imp.tup ⟨⟨DImp.of_eq h0, h1, h2, trivial⟩, PImp.refl _, trivial⟩
set_option maxRecDepth 100000 in
set_option maxHeartbeats 4000000 in
theorem file_y (l : List Tk) (hl : TksOk l) : EFx Tryz.prog [] 39 [tksP l] (FY (sFile l)) := by
 refine ef_enter 141 Tryz.func39 rfl rfl rfl fun w D => ?_
 try refine e_fl ?_
 have hll := hl.len
 refine e_list ?_
 refine e_alloc 2 [.is (.string ⟨#[]⟩), .is (.slice none 0 0), .is (.slice none 0 0)] rfl rfl rfl rfl zr_34 (fun w D M V => ⟨rfl, fun j x v h1 h2 => cfit_is _ h1 h2 rfl⟩) rfl rfl rfl rfl ?_
 refine e_alloc 3 [.is (.int .i64 0), .is (.int .i64 0)] rfl rfl rfl rfl zr_102 (fun w D M V => ⟨rfl, fun j x v h1 h2 => cfit_is _ h1 h2 rfl⟩) rfl rfl rfl rfl ?_
 refine e_nil ?_
 try refine e_fl ?_
 refine e_list ?_
 refine l_op (s_build (ds := [_, _, _]) [] rfl trivial rfl pl_34 zr_34 (fun w D => .cons (.cell _) (.cons (.cell _) (.cons (.cell _) (.nil _ _)))) rfl) ?_
 refine e_alloc 4 [.is (.string ⟨#[]⟩), .is (.slice none 0 0), .is (.slice none 0 0)] rfl rfl rfl rfl zr_34 (fun w D M V => ⟨rfl, fun j x v h1 h2 => cfit_is _ h1 h2 rfl⟩) rfl rfl rfl rfl ?_
 refine e_storew rfl rfl rfl (kn rfl) rfl (kn rfl) rfl rfl sz_34 ?_
 refine e_nil ?_
 try refine e_fl ?_
 refine e_list ?_
 refine l_mv ?_
 refine l_op (s_buildSlice (ds := [_, _]) [(0, _), (1, _)] rfl ⟨rfl, (kn rfl), ⟨rfl, (kn rfl), trivial⟩⟩ rfl sl_49 sz_9 zr_9 (fun w D => .cons (.cell _) (.cons (.cell _) (.nil _ _))) rfl rfl rfl rfl rfl) ?_
 refine e_list_call rfl rfl rfl rfl (by kernel_rfl) (want_y l hl [wSyntax, [61]] (by simp) (by simp) 0 (by omega)) ⟨(kn rfl), ⟨(kn rfl), ⟨(kn rfl), trivial⟩⟩⟩ ?_
 rintro _ ⟨q, a, b, rfl, hr⟩
 refine l_mv ?_
 refine l_ex ?_
 refine l_ex ?_
 refine e_alloc 6 [.is (.int .i64 0), .is (.int .i64 0)] rfl rfl rfl rfl zr_102 (fun w D M V => ⟨rfl, fun j x v h1 h2 => cfit_is _ h1 h2 rfl⟩) rfl rfl rfl rfl ?_
 refine l_as ?_
 refine e_storew rfl rfl rfl (kn rfl) rfl (kn rfl) rfl rfl sz_102 ?_
 refine e_nil ?_
 try refine e_fl ?_
 refine e_plain (w_op rfl rfl rfl (s_faddr_box rfl (kn rfl) off_102_1) (w_op rfl rfl rfl (s_load1_box rfl (kn rfl) rfl rfl one_3) (w_op rfl rfl rfl (s_bin rfl (kn rfl) (kn rfl) v_neq) .nil))) ?_
 try refine e_fl ?_
 refine e_cond rfl (fun h => ?_) (fun h => ?_)
 ·obtain ⟨hb, he⟩ := hr.bad h
  try refine e_fl ?_
  refine e_draw_mix [(2, _), (3, _)] mixed (by kernel_rfl) (WalkM.op rfl rfl rfl (s_loadn_box (ds := [_, _, _]) 3 rfl (kn rfl) rfl rfl agg_34 sz_34 rfl) (WalkM.op rfl rfl rfl (s_loadn_box (ds := [_, _]) 2 rfl (kn rfl) rfl rfl agg_102 sz_102 rfl) (WalkM.stw rfl rfl rfl (kn rfl) rfl rfl (kn rfl) rfl rfl rfl sz_34 (WalkM.stw rfl rfl rfl (kn rfl) rfl rfl (kn rfl) rfl rfl rfl sz_102 (WalkM.nil))))) rfl ?_
  try refine e_fl ?_
  exact e_return rfl rfl (.cell rfl rfl rfl agg_34 sz_34 rfl (.cell rfl rfl rfl agg_102 sz_102 rfl (.nil))) (file_imp (f := ⟨[], [], []⟩) rfl (DImp.nil 9) (DImp.nil 4)) (⟨⟨[], [], []⟩, a, b, rfl, .ill hb (sFile_bad he)⟩)
 obtain ⟨rfl, rfl, ho⟩ := hr.ok h
 try refine e_fl ?_
 obtain ⟨hw, hq⟩ := sFile_ok ho
 refine e_plain (w_mv rfl rfl rfl rfl rfl (w_mv rfl rfl rfl rfl rfl (w_op rfl rfl rfl (s_len rfl (kn rfl) sle_104) (w_op rfl rfl rfl (s_bin rfl (kn rfl) (kn rfl) v_geq) (w_mv rfl rfl rfl rfl rfl (Walk.gd _ rfl rfl rfl (fun h => s_move rfl (kn rfl)) (Walk.gd _ rfl rfl rfl (fun h => s_move rfl (kn rfl)) (Walk.gd _ rfl rfl rfl (fun h => s_index rfl (kn_opt rfl h) (kn_opt rfl h) (by omega) (tkAt_nb (p := q) h) tkD_len sle_104 esz_104 rfl) (Walk.gd _ rfl rfl rfl (fun h => s_faddr_ref rfl (kn_opt rfl h) off_97_0) (Walk.gd _ rfl rfl rfl (fun h => s_load1_ref rfl (kn_opt rfl h) one_3) (Walk.gd _ rfl rfl rfl (fun h => s_bin rfl (kn_opt rfl h) (kn rfl) v_neq) (w_op rfl rfl rfl (s_or rfl (kn rfl) (fun hb => kn_opt rfl hb)) (w_mv rfl rfl rfl rfl rfl (Walk.gd _ rfl rfl rfl (fun h => s_move rfl (kn rfl)) (Walk.gd _ rfl rfl rfl (fun h => s_move rfl (kn rfl)) (Walk.gd _ rfl rfl rfl (fun h => s_index rfl (kn_opt rfl h) (kn_opt rfl h) (by omega) (tkAt_nb2 (p := q) h) tkD_len sle_104 esz_104 rfl) (Walk.gd _ rfl rfl rfl (fun h => s_faddr_ref rfl (kn_opt rfl h) off_97_1) (Walk.gd _ rfl rfl rfl (fun h => s_load1_ref rfl (kn_opt rfl h) one_9) (Walk.gd _ rfl rfl rfl (fun h => s_bin rfl (kn_opt rfl h) (kn rfl) (v_sneq (b := [112, 114, 111, 116, 111, 51]))) (w_op rfl rfl rfl (s_or rfl (kn rfl) (fun hb => kn_opt rfl hb)) .nil)))))))))))))))))))) ?_
 try refine e_fl ?_
 refine e_cond rfl (fun h => ?_) (fun h => ?_)
 ·try refine e_fl ?_
  refine e_draw_mix [(2, _), (3, _)] mixed (by kernel_rfl) (WalkM.op rfl rfl rfl (s_loadn_box (ds := [_, _, _]) 3 rfl (kn rfl) rfl rfl agg_34 sz_34 rfl) (WalkM.op rfl rfl rfl (s_move rfl (kn rfl)) (WalkM.op rfl rfl rfl (s_call rfl (by kernel_rfl) (bad_ef q) ⟨(kn rfl), trivial⟩) (WalkM.stw rfl rfl rfl (kn rfl) rfl rfl (kn rfl) rfl rfl rfl sz_34 (WalkM.stw rfl rfl rfl (kn rfl) rfl rfl (kn rfl) rfl rfl rfl sz_102 (WalkM.nil)))))) rfl ?_
  try refine e_fl ?_
  exact e_return rfl rfl (.cell rfl rfl rfl agg_34 sz_34 rfl (.cell rfl rfl rfl agg_102 sz_102 rfl (.nil))) (file_imp (f := ⟨[], [], []⟩) rfl (DImp.nil 9) (DImp.nil 4)) (⟨⟨[], [], []⟩, q, 9, rfl, .ill (by decide) (hw.trans (proto_or h))⟩)
 obtain ⟨hlt, ht⟩ := proto_yes h
 try refine e_fl ?_
 refine e_list ?_
 refine l_mv ?_
 refine l_mv ?_
 refine l_op (s_bin rfl (kn rfl) (kn rfl) (v_add64 (by first | omega | (dsimp only; omega) | omega))) ?_
 refine l_op (s_buildSlice (ds := [_]) [(0, _)] rfl ⟨rfl, (kn rfl), trivial⟩ rfl sl_49 sz_9 zr_9 (fun w D => .cons (.cell _) (.nil _ _)) rfl rfl rfl rfl rfl) ?_
 refine e_list_call rfl rfl rfl rfl (by kernel_rfl) (want1 l hl 4 [59] rfl (by simp) (q + 1) (by omega)) ⟨(kn rfl), ⟨(kn rfl), ⟨(kn rfl), trivial⟩⟩⟩ ?_
 rintro _ ⟨r, a, b, rfl, hr⟩
 refine l_mv ?_
 refine l_ex ?_
 refine l_ex ?_
 refine l_as ?_
 refine e_storew rfl rfl rfl (kn rfl) rfl (kn rfl) rfl rfl sz_102 ?_
 refine e_nil ?_
 try refine e_fl ?_
 refine e_plain (w_op rfl rfl rfl (s_faddr_box rfl (kn rfl) off_102_1) (w_op rfl rfl rfl (s_load1_box rfl (kn rfl) rfl rfl one_3) (w_op rfl rfl rfl (s_bin rfl (kn rfl) (kn rfl) v_neq) .nil))) ?_
 try refine e_fl ?_
 refine e_cond rfl (fun h => ?_) (fun h => ?_)
 ·obtain ⟨hb, he⟩ := hr.bad h
  try refine e_fl ?_
  refine e_draw_mix [(2, _), (3, _)] mixed (by kernel_rfl) (WalkM.op rfl rfl rfl (s_loadn_box (ds := [_, _, _]) 3 rfl (kn rfl) rfl rfl agg_34 sz_34 rfl) (WalkM.op rfl rfl rfl (s_loadn_box (ds := [_, _]) 2 rfl (kn rfl) rfl rfl agg_102 sz_102 rfl) (WalkM.stw rfl rfl rfl (kn rfl) rfl rfl (kn rfl) rfl rfl rfl sz_34 (WalkM.stw rfl rfl rfl (kn rfl) rfl rfl (kn rfl) rfl rfl rfl sz_102 (WalkM.nil))))) rfl ?_
  try refine e_fl ?_
  exact e_return rfl rfl (.cell rfl rfl rfl agg_34 sz_34 rfl (.cell rfl rfl rfl agg_102 sz_102 rfl (.nil))) (file_imp (f := ⟨[], [], []⟩) rfl (DImp.nil 9) (DImp.nil 4)) (⟨⟨[], [], []⟩, a, b, rfl, .ill hb (by rw [hw]; simp only [sHeadBehind, ht, if_true, he])⟩)
 obtain ⟨rfl, rfl, ho1⟩ := hr.ok h
 try refine e_fl ?_
 have ho2 := sWant_ok ho1
 have hw1 : sFile l = (match sPackage l r with | .error e => .error e | .ok (pk, u) => sParts l (l.length + 1) ⟨pk, [], []⟩ u) := by rw [hw]; simp only [sHeadBehind, ht, if_true, ho1]
 refine e_plain (w_mv rfl rfl rfl rfl rfl (w_mv rfl rfl rfl rfl rfl (w_op rfl rfl rfl (s_call rfl (by kernel_rfl) (is_ef l r 1 [112, 97, 99, 107, 97, 103, 101]) ⟨(kn rfl), ⟨(kn rfl), ⟨(kn rfl), ⟨(kn rfl), trivial⟩⟩⟩⟩) .nil))) ?_
 try refine e_fl ?_
 refine e_cutk (ι := { i : List UInt8 × Nat // sPackage l r = .ok i ∧ i.2 ≤ l.length })
  (fun i => [(0, .part (tksP l)), (2, .box 2 0), (3, .box 3 0), (4, .box 4 0), (5, .is (.int .i64 (i.1.2 : Int))), (6, .box 6 0)])
  (fun i => [(2, ⟨34, [.is (.string ⟨#[]⟩), .is (.slice none 0 0), .is (.slice none 0 0)]⟩), (3, ⟨102, [.is (.int .i64 0), .is (.int .i64 0)]⟩), (4, ⟨34, [.is (.string (str i.1.1)), .is (.slice none 0 0), .is (.slice none 0 0)]⟩), (6, ⟨102, [.is (.int .i64 0), .is (.int .i64 0)]⟩)])
  (fun _ => []) ?_ ?_
 ·refine e_cond rfl (fun hp => ?_) (fun hp => ?_)
  ·have hlt2 := tkIs_lt hp
   try refine e_fl ?_
   refine e_list ?_
   refine l_mv ?_
   refine l_mv ?_
   refine l_op (s_bin rfl (kn rfl) (kn rfl) (v_add64 (by first | omega | (dsimp only; omega) | omega))) ?_
   refine e_list_call rfl rfl rfl rfl (by kernel_rfl) (dotted_y l hl (r + 1) (by omega) false) ⟨(kn rfl), ⟨(kn rfl), ⟨(kn rfl), trivial⟩⟩⟩ ?_
   rintro _ ⟨t, u, a, b, rfl, hr⟩
   refine l_mv ?_
   refine l_ex ?_
   refine l_ex ?_
   refine l_ex ?_
   refine l_op (s_faddr_box rfl (kn rfl) off_34_0) ?_
   refine e_store1 rfl rfl rfl (kn rfl) rfl (kn rfl) rfl rfl sz_9 rfl ?_
   refine l_as ?_
   refine e_storew rfl rfl rfl (kn rfl) rfl (kn rfl) rfl rfl sz_102 ?_
   refine e_nil ?_
   try refine e_fl ?_
   refine e_plain (w_op rfl rfl rfl (s_faddr_box rfl (kn rfl) off_102_1) (w_op rfl rfl rfl (s_load1_box rfl (kn rfl) rfl rfl one_3) (w_op rfl rfl rfl (s_bin rfl (kn rfl) (kn rfl) v_neq) .nil))) ?_
   try refine e_fl ?_
   refine e_cond rfl (fun h => ?_) (fun h => ?_)
   ·obtain ⟨hb, he⟩ := hr.bad h
    try refine e_fl ?_
    refine e_draw_mix [(2, _), (3, _)] mixed (by kernel_rfl) (WalkM.op rfl rfl rfl (s_loadn_box (ds := [_, _, _]) 3 rfl (kn rfl) rfl rfl agg_34 sz_34 rfl) (WalkM.op rfl rfl rfl (s_loadn_box (ds := [_, _]) 2 rfl (kn rfl) rfl rfl agg_102 sz_102 rfl) (WalkM.stw rfl rfl rfl (kn rfl) rfl rfl (kn rfl) rfl rfl rfl sz_34 (WalkM.stw rfl rfl rfl (kn rfl) rfl rfl (kn rfl) rfl rfl rfl sz_102 (WalkM.nil))))) rfl ?_
    try refine e_fl ?_
    exact e_return rfl rfl (.cell rfl rfl rfl agg_34 sz_34 rfl (.cell rfl rfl rfl agg_102 sz_102 rfl (.nil))) (file_imp (f := ⟨t, [], []⟩) rfl (DImp.nil 9) (DImp.nil 4)) (⟨⟨t, [], []⟩, a, b, rfl, .ill hb (by simp only [hw1, sPackage, hp, if_true, he])⟩)
   obtain ⟨rfl, rfl, ho3⟩ := hr.ok h
   try refine e_fl ?_
   have ho4 := sDotted_ok ho3
   refine e_list ?_
   refine l_mv ?_
   refine l_mv ?_
   refine l_op (s_buildSlice (ds := [_]) [(0, _)] rfl ⟨rfl, (kn rfl), trivial⟩ rfl sl_49 sz_9 zr_9 (fun w D => .cons (.cell _) (.nil _ _)) rfl rfl rfl rfl rfl) ?_
   refine e_list_call rfl rfl rfl rfl (by kernel_rfl) (want1 l hl 4 [59] rfl (by simp) u (by omega)) ⟨(kn rfl), ⟨(kn rfl), ⟨(kn rfl), trivial⟩⟩⟩ ?_
   rintro _ ⟨v, a, b, rfl, hr⟩
   refine l_mv ?_
   refine l_ex ?_
   refine l_ex ?_
   refine l_as ?_
   refine e_storew rfl rfl rfl (kn rfl) rfl (kn rfl) rfl rfl sz_102 ?_
   refine e_nil ?_
   try refine e_fl ?_
   refine e_plain (w_op rfl rfl rfl (s_faddr_box rfl (kn rfl) off_102_1) (w_op rfl rfl rfl (s_load1_box rfl (kn rfl) rfl rfl one_3) (w_op rfl rfl rfl (s_bin rfl (kn rfl) (kn rfl) v_neq) .nil))) ?_
   try refine e_fl ?_
   refine e_cond rfl (fun h => ?_) (fun h => ?_)
   ·obtain ⟨hb, he⟩ := hr.bad h
    try refine e_fl ?_
    refine e_draw_mix [(2, _), (3, _)] mixed (by kernel_rfl) (WalkM.op rfl rfl rfl (s_loadn_box (ds := [_, _, _]) 3 rfl (kn rfl) rfl rfl agg_34 sz_34 rfl) (WalkM.op rfl rfl rfl (s_loadn_box (ds := [_, _]) 2 rfl (kn rfl) rfl rfl agg_102 sz_102 rfl) (WalkM.stw rfl rfl rfl (kn rfl) rfl rfl (kn rfl) rfl rfl rfl sz_34 (WalkM.stw rfl rfl rfl (kn rfl) rfl rfl (kn rfl) rfl rfl rfl sz_102 (WalkM.nil))))) rfl ?_
    try refine e_fl ?_
    exact e_return rfl rfl (.cell rfl rfl rfl agg_34 sz_34 rfl (.cell rfl rfl rfl agg_102 sz_102 rfl (.nil))) (file_imp (f := ⟨t, [], []⟩) rfl (DImp.nil 9) (DImp.nil 4)) (⟨⟨t, [], []⟩, a, b, rfl, .ill hb (by simp only [hw1, sPackage, hp, if_true, ho3, he])⟩)
   obtain ⟨rfl, rfl, ho5⟩ := hr.ok h
   try refine e_fl ?_
   have ho6 := sWant_ok ho5
   refine e_meet ⟨(t, v), by simp only [sPackage, hp, if_true, ho3, ho5], by dsimp only; omega⟩ (fun K => e_sub ⟨s_t, s_t, s_t, s_t, s_t, s_t, trivial⟩ ⟨s_b, s_b, s_b, s_b, trivial⟩ trivial)
  ·try refine e_fl ?_
   refine e_meet ⟨([], r), by simp only [sPackage, hp]; rfl, by dsimp only; omega⟩ (fun K => e_sub ⟨s_t, s_t, s_t, s_t, s_t, s_t, trivial⟩ ⟨s_b, s_b, s_b, s_b, trivial⟩ trivial)
 rintro ⟨⟨pk, u⟩, hpk, hu⟩
 dsimp only at hpk hu ⊢
 simp only [hpk] at hw1
 try refine e_fl ?_
 refine e_row_cell 4 1 100 68 9 rfl rfl rfl rfl rfl ?_
 refine e_row_cell 4 2 101 72 4 rfl rfl rfl rfl rfl ?_
 refine e_loop (ι := { i : Nat × Fil × Nat // 1 ≤ i.1 ∧ l.length + 1 ≤ i.1 + i.2.2 ∧ i.2.2 ≤ l.length ∧ i.2.1.msgs.length ≤ i.2.2 ∧ i.2.1.enums.length ≤ i.2.2 ∧ sFile l = sParts l i.1 i.2.1 i.2.2 })
  (fun i => [(0, .part (tksP l)), (2, .box 2 0), (3, .box 3 0), (4, .box 4 0), (5, .is (.int .i64 (i.1.2.2 : Int))), (6, .box 6 0)])
  (fun i => [(2, ⟨34, [.is (.string ⟨#[]⟩), .is (.slice none 0 0), .is (.slice none 0 0)]⟩), (3, ⟨102, [.is (.int .i64 0), .is (.int .i64 0)]⟩), (4, ⟨34, [.is (.string (str i.1.2.1.package)), .own 100, .own 101]⟩), (6, ⟨102, [.is (.int .i64 0), .is (.int .i64 0)]⟩)])
  (fun i => [(100, ⟨68, 9, i.1.2.1.msgs.length, i.1.2.1.msgs.flatMap Msg.dats, false⟩), (101, ⟨72, 4, i.1.2.1.enums.length, i.1.2.1.enums.flatMap Enm.dats, false⟩)])
  (fun i => i.1.1) ⟨(l.length + 1, ⟨pk, [], []⟩, u), by omega, by dsimp only; omega, hu, by simp, by simp, hw1⟩
  (fun K => e_sub ⟨s_t, s_t, s_t, s_t, s_t, s_t, trivial⟩ ⟨s_b, s_b, s_b, s_b, trivial⟩ ⟨rfl, rfl, trivial⟩) ?_
 rintro ⟨⟨n, f, q⟩, hn1, hn, hq, hm, hen, hw⟩
 dsimp only at hn1 hn hq hm hen hw ⊢
 obtain ⟨k, rfl⟩ : ∃ k, n = k + 1 := ⟨n - 1, by omega⟩
 try refine e_fl ?_
 refine e_plain (w_mv rfl rfl rfl rfl rfl (w_mv rfl rfl rfl rfl rfl (w_op rfl rfl rfl (s_len rfl (kn rfl) sle_104) (w_op rfl rfl rfl (s_bin rfl (kn rfl) (kn rfl) v_lss) .nil)))) ?_
 try refine e_fl ?_
 refine e_cond rfl (fun h => ?_) (fun h => ?_)
 ·have hlt : q < l.length := by have := of_decide_eq_true h; omega
  try refine e_fl ?_
  refine e_plain (w_mv rfl rfl rfl rfl rfl (w_mv rfl rfl rfl rfl rfl (w_op rfl rfl rfl (s_call rfl (by kernel_rfl) (is_ef l q 4 [59]) ⟨(kn rfl), ⟨(kn rfl), ⟨(kn rfl), ⟨(kn rfl), trivial⟩⟩⟩⟩) (w_as rfl rfl rfl rfl rfl .nil)))) ?_
  try refine e_fl ?_
  refine e_cond rfl (fun i1 => ?_) (fun i1 => ?_)
  ·try refine e_fl ?_
   refine e_plain (w_mv rfl rfl rfl rfl rfl (w_op rfl rfl rfl (s_bin rfl (kn rfl) (kn rfl) (v_add64 (by first | omega | (dsimp only; omega) | omega))) (w_as rfl rfl rfl rfl rfl .nil))) ?_
   try refine e_fl ?_
   refine e_plain (w_op rfl rfl rfl (s_faddr_box rfl (kn rfl) off_102_1) (w_op rfl rfl rfl (s_load1_box rfl (kn rfl) rfl rfl one_3) (w_op rfl rfl rfl (s_bin rfl (kn rfl) (kn rfl) v_neq) .nil))) ?_
   try refine e_fl ?_
   refine e_cond rfl (fun h => ?_) (fun h => ?_)
   ·cases h
   try refine e_fl ?_
   refine e_again ⟨(k, f, q + 1), by omega, by dsimp only; omega, by dsimp only; omega, by dsimp only; omega, by dsimp only; omega, by simp only [hw, sParts, if_pos hlt, if_pos i1]⟩ (by dsimp only; omega)
    (fun K => e_sub ⟨s_t, s_t, s_t, s_t, s_t, s_t, trivial⟩ ⟨s_b, s_b, s_b, s_b, trivial⟩ ⟨rfl, rfl, trivial⟩)
  try refine e_fl ?_
  refine e_plain (w_mv rfl rfl rfl rfl rfl (w_mv rfl rfl rfl rfl rfl (w_op rfl rfl rfl (s_call rfl (by kernel_rfl) (is_ef l q 1 [109, 101, 115, 115, 97, 103, 101]) ⟨(kn rfl), ⟨(kn rfl), ⟨(kn rfl), ⟨(kn rfl), trivial⟩⟩⟩⟩) (w_as rfl rfl rfl rfl rfl .nil)))) ?_
  try refine e_fl ?_
  refine e_cond rfl (fun i2 => ?_) (fun i2 => ?_)
  ·try refine e_fl ?_
   refine e_list ?_
   refine e_alloc 7 [.is (.string ⟨#[]⟩), .is (.slice none 0 0), .is (.slice none 0 0), .is (.slice none 0 0), .is (.slice none 0 0), .is (.slice none 0 0), .is (.slice none 0 0), .is (.int .i64 0), .is (.int .i64 0)] rfl rfl rfl rfl zr_68 (fun w D M V => ⟨rfl, fun j x v h1 h2 => cfit_is _ h1 h2 rfl⟩) rfl rfl rfl rfl ?_
   refine e_nil ?_
   try refine e_fl ?_
   refine e_list ?_
   refine l_mv ?_
   refine l_mv ?_
   refine l_op (s_bin rfl (kn rfl) (kn rfl) (v_add64 (by first | omega | (dsimp only; omega) | omega))) ?_
   refine e_list_call rfl rfl rfl rfl (by kernel_rfl) (message_y l hl 8 (by omega) 0 (q + 1) (by omega) (by omega)) ⟨(kn rfl), ⟨(kn rfl), ⟨(kn rfl), trivial⟩⟩⟩ ?_
   rintro _ ⟨m, r, a, b, rfl, hr⟩
   refine l_mv ?_
   refine l_ex ?_
   refine l_ex ?_
   refine l_ex ?_
   refine e_storew rfl rfl rfl (kn rfl) rfl (kn rfl) rfl rfl sz_68 ?_
   refine l_as ?_
   refine e_storew rfl rfl rfl (kn rfl) rfl (kn rfl) rfl rfl sz_102 ?_
   refine e_nil ?_
   try refine e_fl ?_
   refine e_list ?_
   refine l_op (s_faddr_box rfl (kn rfl) off_34_1) ?_
   refine l_op (s_load1_box rfl (kn rfl) rfl rfl one_31) ?_
   refine l_op (s_loadn_box (ds := [_, _, _, _, _, _, _, _, _]) 9 rfl (kn rfl) rfl rfl agg_68 sz_68 rfl) ?_
   refine l_op (s_buildSlice (ds := [_, _, _, _, _, _, _, _, _]) [(0, _)] rfl ⟨rfl, (kn rfl), trivial⟩ rfl sl_31 sz_68 zr_68 (fun w D => .cons (.cell _) (.cons (.cell _) (.cons (.cell _) (.cons (.cell _) (.cons (.cell _) (.cons (.cell _) (.cons (.cell _) (.cons (.cell _) (.cons (.cell _) (.nil _ _)))))))))) rfl rfl rfl rfl rfl) ?_
   refine e_append rfl rfl rfl rfl (kn rfl) rfl (kn rfl) sl_31 ap_31 rfl rfl (by first | omega | (dsimp only; omega) | omega) (by first | omega | (dsimp only; omega) | omega) ?_
   refine l_op (s_faddr_box rfl (kn rfl) off_34_1) ?_
   refine e_store_own rfl rfl rfl (kn rfl) rfl (kn rfl) rfl rfl sz_31 rfl ?_
   refine e_nil ?_
   try refine e_fl ?_
   refine e_plain (w_op rfl rfl rfl (s_faddr_box rfl (kn rfl) off_102_1) (w_op rfl rfl rfl (s_load1_box rfl (kn rfl) rfl rfl one_3) (w_op rfl rfl rfl (s_bin rfl (kn rfl) (kn rfl) v_neq) .nil))) ?_
   try refine e_fl ?_
   refine e_cond rfl (fun h => ?_) (fun h => ?_)
   ·obtain ⟨hb, he⟩ := hr.bad h
    try refine e_fl ?_
    refine e_freeze_cell 4 1 100 rfl rfl rfl rfl rfl ?_
    refine e_freeze_cell 4 2 101 rfl rfl rfl rfl rfl ?_
    refine e_draw_mix [(2, _), (3, _)] mixed (by kernel_rfl) (WalkM.op rfl rfl rfl (s_loadn_box (ds := [_, _, _]) 3 rfl (kn rfl) rfl rfl agg_34 sz_34 rfl) (WalkM.op rfl rfl rfl (s_loadn_box (ds := [_, _]) 2 rfl (kn rfl) rfl rfl agg_102 sz_102 rfl) (WalkM.stw rfl rfl rfl (kn rfl) rfl rfl (kn rfl) rfl rfl rfl sz_34 (WalkM.stw rfl rfl rfl (kn rfl) rfl rfl (kn rfl) rfl rfl rfl sz_102 (WalkM.nil))))) rfl ?_
    try refine e_fl ?_
    exact e_return rfl rfl (.cell rfl rfl rfl agg_34 sz_34 rfl (.cell rfl rfl rfl agg_102 sz_102 rfl (.nil))) (file_imp (f := { f with msgs := f.msgs ++ [m] }) rfl (DImp.of_eq (by simp [List.flatMap_append, dats_md, md, Enm.dats])) (DImp.of_eq (by simp [List.flatMap_append, dats_md, md, Enm.dats]))) (⟨{ f with msgs := f.msgs ++ [m] }, a, b, rfl, .ill hb (by simp only [hw, sParts, if_pos hlt, i1, i2, if_true, he]; rfl)⟩)
   obtain ⟨rfl, rfl, ho⟩ := hr.ok h
   have hst := (sMessage_ok l 8) _ _ _ ho
   try refine e_fl ?_
   refine e_again ⟨(k, { f with msgs := f.msgs ++ [m] }, r), by omega, by dsimp only; omega, by dsimp only; omega, by simp only [List.length_append, List.length_cons, List.length_nil]; omega, by simp only [List.length_append, List.length_cons, List.length_nil]; omega, by simp only [hw, sParts, if_pos hlt, i1, i2, if_true, ho]; rfl⟩ (by dsimp only; omega)
    (fun K => e_sub ⟨s_t, s_t, s_t, s_t, s_t, s_t, trivial⟩ ⟨s_b, s_b, s_b, s_b, trivial⟩ ⟨by first | rfl | exact rowEq rfl (by simp) (by simp [List.flatMap_append, dats_md, md, Enm.dats]), by first | rfl | exact rowEq rfl (by simp) (by simp [List.flatMap_append, dats_md, md, Enm.dats]), trivial⟩)
  try refine e_fl ?_
  refine e_plain (w_mv rfl rfl rfl rfl rfl (w_mv rfl rfl rfl rfl rfl (w_op rfl rfl rfl (s_call rfl (by kernel_rfl) (is_ef l q 1 [101, 110, 117, 109]) ⟨(kn rfl), ⟨(kn rfl), ⟨(kn rfl), ⟨(kn rfl), trivial⟩⟩⟩⟩) (w_as rfl rfl rfl rfl rfl .nil)))) ?_
  try refine e_fl ?_
  refine e_cond rfl (fun i3 => ?_) (fun i3 => ?_)
  ·try refine e_fl ?_
   refine e_list ?_
   refine e_alloc 8 [.is (.string ⟨#[]⟩), .is (.slice none 0 0), .is (.int .i64 0), .is (.int .i64 0)] rfl rfl rfl rfl zr_72 (fun w D M V => ⟨rfl, fun j x v h1 h2 => cfit_is _ h1 h2 rfl⟩) rfl rfl rfl rfl ?_
   refine e_nil ?_
   try refine e_fl ?_
   refine e_list ?_
   refine l_mv ?_
   refine l_mv ?_
   refine l_op (s_bin rfl (kn rfl) (kn rfl) (v_add64 (by first | omega | (dsimp only; omega) | omega))) ?_
   refine e_list_call rfl rfl rfl rfl (by kernel_rfl) (enum_y l hl (q + 1) (by omega)) ⟨(kn rfl), ⟨(kn rfl), trivial⟩⟩ ?_
   rintro _ ⟨m, r, a, b, rfl, hr⟩
   refine l_mv ?_
   refine l_ex ?_
   refine l_ex ?_
   refine l_ex ?_
   refine e_storew rfl rfl rfl (kn rfl) rfl (kn rfl) rfl rfl sz_72 ?_
   refine l_as ?_
   refine e_storew rfl rfl rfl (kn rfl) rfl (kn rfl) rfl rfl sz_102 ?_
   refine e_nil ?_
   try refine e_fl ?_
   refine e_list ?_
   refine l_op (s_faddr_box rfl (kn rfl) off_34_2) ?_
   refine l_op (s_load1_box rfl (kn rfl) rfl rfl one_32) ?_
   refine l_op (s_loadn_box (ds := [_, _, _, _]) 4 rfl (kn rfl) rfl rfl agg_72 sz_72 rfl) ?_
   refine l_op (s_buildSlice (ds := [_, _, _, _]) [(0, _)] rfl ⟨rfl, (kn rfl), trivial⟩ rfl sl_32 sz_72 zr_72 (fun w D => .cons (.cell _) (.cons (.cell _) (.cons (.cell _) (.cons (.cell _) (.nil _ _))))) rfl rfl rfl rfl rfl) ?_
   refine e_append rfl rfl rfl rfl (kn rfl) rfl (kn rfl) sl_32 ap_32 rfl rfl (by first | omega | (dsimp only; omega) | omega) (by first | omega | (dsimp only; omega) | omega) ?_
   refine l_op (s_faddr_box rfl (kn rfl) off_34_2) ?_
   refine e_store_own rfl rfl rfl (kn rfl) rfl (kn rfl) rfl rfl sz_32 rfl ?_
   refine e_nil ?_
   try refine e_fl ?_
   refine e_plain (w_op rfl rfl rfl (s_faddr_box rfl (kn rfl) off_102_1) (w_op rfl rfl rfl (s_load1_box rfl (kn rfl) rfl rfl one_3) (w_op rfl rfl rfl (s_bin rfl (kn rfl) (kn rfl) v_neq) .nil))) ?_
   try refine e_fl ?_
   refine e_cond rfl (fun h => ?_) (fun h => ?_)
   ·obtain ⟨hb, he⟩ := hr.bad h
    try refine e_fl ?_
    refine e_freeze_cell 4 1 100 rfl rfl rfl rfl rfl ?_
    refine e_freeze_cell 4 2 101 rfl rfl rfl rfl rfl ?_
    refine e_draw_mix [(2, _), (3, _)] mixed (by kernel_rfl) (WalkM.op rfl rfl rfl (s_loadn_box (ds := [_, _, _]) 3 rfl (kn rfl) rfl rfl agg_34 sz_34 rfl) (WalkM.op rfl rfl rfl (s_loadn_box (ds := [_, _]) 2 rfl (kn rfl) rfl rfl agg_102 sz_102 rfl) (WalkM.stw rfl rfl rfl (kn rfl) rfl rfl (kn rfl) rfl rfl rfl sz_34 (WalkM.stw rfl rfl rfl (kn rfl) rfl rfl (kn rfl) rfl rfl rfl sz_102 (WalkM.nil))))) rfl ?_
    try refine e_fl ?_
    exact e_return rfl rfl (.cell rfl rfl rfl agg_34 sz_34 rfl (.cell rfl rfl rfl agg_102 sz_102 rfl (.nil))) (file_imp (f := { f with enums := f.enums ++ [m] }) rfl (DImp.of_eq (by simp [List.flatMap_append, dats_md, md, Enm.dats])) (DImp.of_eq (by simp [List.flatMap_append, dats_md, md, Enm.dats]))) (⟨{ f with enums := f.enums ++ [m] }, a, b, rfl, .ill hb (by simp only [hw, sParts, if_pos hlt, i1, i2, i3, if_true, he]; rfl)⟩)
   obtain ⟨rfl, rfl, ho⟩ := hr.ok h
   have hst := sEnum_ok ho
   try refine e_fl ?_
   refine e_again ⟨(k, { f with enums := f.enums ++ [m] }, r), by omega, by dsimp only; omega, by dsimp only; omega, by simp only [List.length_append, List.length_cons, List.length_nil]; omega, by simp only [List.length_append, List.length_cons, List.length_nil]; omega, by simp only [hw, sParts, if_pos hlt, i1, i2, i3, if_true, ho]; rfl⟩ (by dsimp only; omega)
    (fun K => e_sub ⟨s_t, s_t, s_t, s_t, s_t, s_t, trivial⟩ ⟨s_b, s_b, s_b, s_b, trivial⟩ ⟨by first | rfl | exact rowEq rfl (by simp) (by simp [List.flatMap_append, dats_md, md, Enm.dats]), by first | rfl | exact rowEq rfl (by simp) (by simp [List.flatMap_append, dats_md, md, Enm.dats]), trivial⟩)
  try refine e_fl ?_
  refine e_list ?_
  refine l_mv ?_
  refine l_op (s_call rfl (by kernel_rfl) (bad_ef q) ⟨(kn rfl), trivial⟩) ?_
  refine e_storew rfl rfl rfl (kn rfl) rfl (kn rfl) rfl rfl sz_102 ?_
  refine e_nil ?_
  try refine e_fl ?_
  refine e_plain (w_op rfl rfl rfl (s_faddr_box rfl (kn rfl) off_102_1) (w_op rfl rfl rfl (s_load1_box rfl (kn rfl) rfl rfl one_3) (w_op rfl rfl rfl (s_bin rfl (kn rfl) (kn rfl) v_neq) .nil))) ?_
  try refine e_fl ?_
  refine e_cond rfl (fun h => ?_) (fun h => ?_)
  ·try refine e_fl ?_
   refine e_freeze_cell 4 1 100 rfl rfl rfl rfl rfl ?_
   refine e_freeze_cell 4 2 101 rfl rfl rfl rfl rfl ?_
   refine e_draw_mix [(2, _), (3, _)] mixed (by kernel_rfl) (WalkM.op rfl rfl rfl (s_loadn_box (ds := [_, _, _]) 3 rfl (kn rfl) rfl rfl agg_34 sz_34 rfl) (WalkM.op rfl rfl rfl (s_loadn_box (ds := [_, _]) 2 rfl (kn rfl) rfl rfl agg_102 sz_102 rfl) (WalkM.stw rfl rfl rfl (kn rfl) rfl rfl (kn rfl) rfl rfl rfl sz_34 (WalkM.stw rfl rfl rfl (kn rfl) rfl rfl (kn rfl) rfl rfl rfl sz_102 (WalkM.nil))))) rfl ?_
   try refine e_fl ?_
   exact e_return rfl rfl (.cell rfl rfl rfl agg_34 sz_34 rfl (.cell rfl rfl rfl agg_102 sz_102 rfl (.nil))) (Imp.refl _) (⟨f, q, 9, rfl, .ill (by decide) (by simp only [hw, sParts, if_pos hlt, i1, i2, i3]; rfl)⟩)
  ·cases h
 ·have hlt : ¬ q < l.length := by have := of_decide_eq_false h; omega
  try refine e_fl ?_
  refine e_freeze_cell 4 1 100 rfl rfl rfl rfl rfl ?_
  refine e_freeze_cell 4 2 101 rfl rfl rfl rfl rfl ?_
  refine e_list ?_
  refine l_op (s_loadn_box (ds := [_, _, _]) 3 rfl (kn rfl) rfl rfl agg_34 sz_34 rfl) ?_
  refine l_op (s_build (ds := [_, _]) [] rfl trivial rfl pl_102 zr_102 (fun w D => .cons (.cell _) (.cons (.cell _) (.nil _ _))) rfl) ?_
  refine e_storew rfl rfl rfl (kn rfl) rfl (kn rfl) rfl rfl sz_34 ?_
  refine e_storew rfl rfl rfl (kn rfl) rfl (kn rfl) rfl rfl sz_102 ?_
  refine e_nil ?_
  try refine e_fl ?_
  exact e_return rfl rfl (.cell rfl rfl rfl agg_34 sz_34 rfl (.cell rfl rfl rfl agg_102 sz_102 rfl (.nil))) (Imp.refl _) (⟨f, 0, 0, rfl, .good (by simp only [hw, sParts, if_neg hlt])⟩)
def placeOf (l : List Tk) (e : Nat × Nat) : Nat × Nat × Nat := if e.1 < l.length then (e.2, (tkAt l e.1).2.1, (tkAt l e.1).2.2) else (e.2, 0, 0)
def fil0 : Fil := ⟨[], [], []⟩
def sParse (l : List Tk) : Fil × Nat × Nat × Nat :=
 match sFile l with
 | .ok f => (f, 0, 0, 0)
 | .error e => (fil0, placeOf l e)
abbrev parseR (x : Fil × Nat × Nat × Nat) : IV := .tup [FQ x.1, iP x.2.1, iP x.2.2.1, iP x.2.2.2]
theorem parse_imp {x : Fil × Nat × Nat × Nat} {p q r : Part} {z : List Dat} (hx : x.1 = fil0) (hz : z = [.cell (.string ⟨#[]⟩), .row 9 0 [], .row 4 0 []]) (hp : p = iP x.2.1) (hq : q = iP x.2.2.1) (hr : r = iP x.2.2.2) : Imp (.tup [.many z, p, q, r]) (parseR x) := Imp.of_eq (by subst hz hp hq hr; unfold parseR; rw [hx]; rfl)
set_option maxRecDepth 100000 in
theorem parse_ef (l : List Tk) (hl : TksOk l) : EF Tryz.prog [] 18 [tksP l] (parseR (sParse l)) := by
 refine ef_enter 40 Tryz.func18 rfl rfl rfl fun w D => ?_
 try refine e_fl ?_
 have hll := hl.len
 refine e_list ?_
 refine e_alloc 2 [.is (.string ⟨#[]⟩), .is (.slice none 0 0), .is (.slice none 0 0)] rfl rfl rfl rfl zr_34 (fun w D M V => ⟨rfl, fun j x v h1 h2 => cfit_is _ h1 h2 rfl⟩) rfl rfl rfl rfl ?_
 refine l_as ?_
 refine l_as ?_
 refine l_as ?_
 refine e_nil ?_
 try refine e_fl ?_
 refine e_list ?_
 refine l_mv ?_
 refine e_list_call rfl rfl rfl rfl (by kernel_rfl) (file_y l hl) ⟨(kn rfl), trivial⟩ ?_
 rintro _ ⟨f, a, b, rfl, hr⟩
 refine l_mv ?_
 refine l_ex ?_
 refine l_ex ?_
 refine e_alloc 6 [.is (.string ⟨#[]⟩), .is (.slice none 0 0), .is (.slice none 0 0)] rfl rfl rfl rfl zr_34 (fun w D M V => ⟨rfl, fun j x v h1 h2 => cfit_is _ h1 h2 rfl⟩) rfl rfl rfl rfl ?_
 refine e_alloc 7 [.is (.int .i64 0), .is (.int .i64 0)] rfl rfl rfl rfl zr_102 (fun w D M V => ⟨rfl, fun j x v h1 h2 => cfit_is _ h1 h2 rfl⟩) rfl rfl rfl rfl ?_
 refine e_storew rfl rfl rfl (kn rfl) rfl (kn rfl) rfl rfl sz_34 ?_
 refine e_storew rfl rfl rfl (kn rfl) rfl (kn rfl) rfl rfl sz_102 ?_
 refine e_nil ?_
 try refine e_fl ?_
 refine e_plain (w_op rfl rfl rfl (s_faddr_box rfl (kn rfl) off_102_1) (w_op rfl rfl rfl (s_load1_box rfl (kn rfl) rfl rfl one_3) (w_op rfl rfl rfl (s_bin rfl (kn rfl) (kn rfl) v_eql) .nil))) ?_
 try refine e_fl ?_
 refine e_cond rfl (fun h => ?_) (fun h => ?_)
 ·obtain ⟨rfl, rfl, ho⟩ := hr.go h
  have hs : sParse l = (f, 0, 0, 0) := by unfold sParse; rw [ho]
  try refine e_fl ?_
  refine e_list ?_
  refine l_op (s_loadn_box (ds := [_, _, _]) 3 rfl (kn rfl) rfl rfl agg_34 sz_34 rfl) ?_
  refine e_storew rfl rfl rfl (kn rfl) rfl (kn rfl) rfl rfl sz_34 ?_
  refine l_as ?_
  refine l_as ?_
  refine l_as ?_
  refine e_nil ?_
  try refine e_fl ?_
  exact e_return rfl rfl (.cell rfl rfl rfl agg_34 sz_34 rfl (.tmp (kn rfl) (.tmp (kn rfl) (.tmp (kn rfl) (.nil))))) (Imp.of_eq (by rw [hs]; rfl)) rfl
 obtain ⟨hb, he⟩ := hr.stop h
 have hs : sParse l = (fil0, placeOf l (a, b)) := by unfold sParse; rw [he]
 try refine e_fl ?_
 refine e_plain (w_op rfl rfl rfl (s_faddr_box rfl (kn rfl) off_102_0) (w_op rfl rfl rfl (s_load1_box rfl (kn rfl) rfl rfl one_3) (w_mv rfl rfl rfl rfl rfl (w_op rfl rfl rfl (s_len rfl (kn rfl) sle_57) (w_op rfl rfl rfl (s_bin rfl (kn rfl) (kn rfl) v_geq) .nil))))) ?_
 try refine e_fl ?_
 refine e_cond rfl (fun h1 => ?_) (fun h1 => ?_)
 ·have h2 : ¬ a < l.length := by have := of_decide_eq_true h1; omega
  try refine e_fl ?_
  refine e_draw_mix [(2, _)] mixed (by kernel_rfl) (WalkM.op rfl rfl rfl (s_build (ds := [_, .row 9 0 [], .row 4 0 []]) [] rfl trivial rfl pl_34 zr_34 (fun w D => .cons (.cell _) (.cons (.none _ _ _) (.cons (.none _ _ _) (.nil _ _)))) rfl) (WalkM.op rfl rfl rfl (s_faddr_box rfl (kn rfl) off_102_1) (WalkM.op rfl rfl rfl (s_load1_box rfl (kn rfl) rfl rfl one_3) (WalkM.stw rfl rfl rfl (kn rfl) rfl rfl (kn rfl) rfl rfl rfl sz_34 (WalkM.op rfl rfl rfl (s_assign rfl (kn rfl)) (WalkM.op rfl rfl rfl (s_assign rfl (kn rfl)) (WalkM.op rfl rfl rfl (s_assign rfl (kn rfl)) (WalkM.nil)))))))) rfl ?_
  try refine e_fl ?_
  exact e_return rfl rfl (.cell rfl rfl rfl agg_34 sz_34 rfl (.tmp (kn rfl) (.tmp (kn rfl) (.tmp (kn rfl) (.nil))))) (parse_imp (by rw [hs]) rfl (by rw [hs]; unfold placeOf; rw [if_neg h2]) (by rw [hs]; unfold placeOf; rw [if_neg h2]; rfl) (by rw [hs]; unfold placeOf; rw [if_neg h2]; rfl)) rfl
 have h2 : a < l.length := by have := of_decide_eq_false h1; omega
 try refine e_fl ?_
 refine e_draw_mix [(2, _)] mixed (by kernel_rfl) (WalkM.op rfl rfl rfl (s_build (ds := [_, .row 9 0 [], .row 4 0 []]) [] rfl trivial rfl pl_34 zr_34 (fun w D => .cons (.cell _) (.cons (.none _ _ _) (.cons (.none _ _ _) (.nil _ _)))) rfl) (WalkM.op rfl rfl rfl (s_faddr_box rfl (kn rfl) off_102_1) (WalkM.op rfl rfl rfl (s_load1_box rfl (kn rfl) rfl rfl one_3) (WalkM.op rfl rfl rfl (s_move rfl (kn rfl)) (WalkM.op rfl rfl rfl (s_faddr_box rfl (kn rfl) off_102_0) (WalkM.op rfl rfl rfl (s_load1_box rfl (kn rfl) rfl rfl one_3) (WalkM.op rfl rfl rfl (s_index rfl (kn rfl) (kn rfl) (by omega) (tkAt_lt (p := a) h2) tkD_len sle_57 esz_57 rfl) (WalkM.op rfl rfl rfl (s_faddr_ref rfl (kn rfl) off_97_3) (WalkM.op rfl rfl rfl (s_load1_ref rfl (kn rfl) one_3) (WalkM.op rfl rfl rfl (s_move rfl (kn rfl)) (WalkM.op rfl rfl rfl (s_faddr_box rfl (kn rfl) off_102_0) (WalkM.op rfl rfl rfl (s_load1_box rfl (kn rfl) rfl rfl one_3) (WalkM.op rfl rfl rfl (s_index rfl (kn rfl) (kn rfl) (by omega) (tkAt_lt (p := a) h2) tkD_len sle_57 esz_57 rfl) (WalkM.op rfl rfl rfl (s_faddr_ref rfl (kn rfl) off_97_4) (WalkM.op rfl rfl rfl (s_load1_ref rfl (kn rfl) one_3) (WalkM.stw rfl rfl rfl (kn rfl) rfl rfl (kn rfl) rfl rfl rfl sz_34 (WalkM.op rfl rfl rfl (s_assign rfl (kn rfl)) (WalkM.op rfl rfl rfl (s_assign rfl (kn rfl)) (WalkM.op rfl rfl rfl (s_assign rfl (kn rfl)) (WalkM.nil)))))))))))))))))))) rfl ?_
 try refine e_fl ?_
 exact e_return rfl rfl (.cell rfl rfl rfl agg_34 sz_34 rfl (.tmp (kn rfl) (.tmp (kn rfl) (.tmp (kn rfl) (.nil))))) (parse_imp (by rw [hs]) rfl (by rw [hs]; unfold placeOf; rw [if_pos h2]) (by rw [hs]; unfold placeOf; rw [if_pos h2]) (by rw [hs]; unfold placeOf; rw [if_pos h2])) rfl
end Go.Proofs.YtfcjeciepadmeaaGreatDoor
namespace Go.Proofs.YtfcjeciepadmeaaGreatDoor
open Go.RowKit
def sSyn (l : List Tk) : Ans8 Nat :=
 match sWants l [wSyntax, [61]] 0 with
 | .error e => .error e
 | .ok q =>
  match sText l q with
  | .error e => .error e
  | .ok (t, r) => if t = wProto3 then sWant l 4 [59] r else form8 q
theorem sWants_le {l : List Tk} : ∀ {ts : List (List UInt8)} {p q : Nat}, p ≤ l.length → sWants l ts p = .ok q → q ≤ l.length
 | [], p, q, hp, h => by
  rw [sWants] at h
  injection h with h
  omega
 | t :: ts, p, q, hp, h => by
  rw [sWants] at h
  split at h
  ·cases h
  ·rename_i r hr
   have := sWant_ok hr
   exact sWants_le (by omega) h
set_option maxRecDepth 100000 in
theorem syntax_g (E8 E9 : Er) (l : List Tk) (hl : PTk l) : EG Tryz.prog (gE E8 E9) 47 [.box 1 0] (pB l 0) [] (PE l E8 E9 (sSyn l)) := by
 refine eg_enter 29 Tryz.func47 rfl rfl rfl fun w D bor mb => ?_
 try refine e_fl ?_
 have hll := hl.len
 refine e_plain (w_as rfl rfl rfl rfl rfl .nil) ?_
 try refine e_fl ?_
 refine e_list ?_
 refine l_mv ?_
 refine l_op (s_buildSlice (ds := [_, _]) [(0, _), (1, _)] rfl ⟨rfl, (kn rfl), ⟨rfl, (kn rfl), trivial⟩⟩ rfl sl_49 sz_9 zr_9 (fun w D => .cons (.cell _) (.cons (.cell _) (.nil _ _))) rfl rfl rfl rfl rfl) ?_
 refine e_calli rfl rfl rfl rfl (by kernel_rfl) (want_g E8 E9 l hl [wSyntax, [61]] (by simp) (by decide) 0 (by omega)) ⟨rfl, trivial⟩ trivial ⟨(kn rfl), ⟨(kn rfl), trivial⟩⟩ (PE.tidy) ?_
 rintro _ _ _ (⟨a, b, z, he, rfl, rfl, rfl⟩ | ⟨q, ho, rfl, rfl, rfl⟩)
 ·refine l_as ?_
  refine e_nil ?_
  try refine e_fl ?_
  refine e_plain (w_mv rfl rfl rfl rfl rfl (w_op rfl rfl rfl (s_err_neq rfl (kn rfl) rfl ifc_28) .nil)) ?_
  try refine e_fl ?_
  refine c_yes ?_
  try refine e_fl ?_
  refine e_plain (w_mv rfl rfl rfl rfl rfl (w_as rfl rfl rfl rfl rfl .nil)) ?_
  try refine e_fl ?_
  exact e_returnx (pB l z) ([]) rfl (.tmp (kn rfl) (.nil)) (Imp.refl _) ⟨s_b, trivial⟩ trivial (.inl ⟨a, b, z, by simp only [sSyn, he], rfl, rfl, rfl⟩)
 refine l_as ?_
 refine e_nil ?_
 try refine e_fl ?_
 refine e_plain (w_mv rfl rfl rfl rfl rfl (w_op rfl rfl rfl (s_nil_neq rfl (kn rfl) ifc_28) .nil)) ?_
 try refine e_fl ?_
 refine c_no ?_
 try refine e_fl ?_
 have hq := sWants_le (Nat.zero_le _) ho
 refine e_list ?_
 refine l_mv ?_
 refine e_calli rfl rfl rfl rfl (by kernel_rfl) (token_g E8 E9 l hl.toTksOk (q) 3 (by omega)) ⟨rfl, trivial⟩ trivial ⟨(kn rfl), ⟨(kn rfl), trivial⟩⟩ (TY.tidy) ?_
 rintro _ _ _ (⟨hk, rfl, rfl, rfl⟩ | ⟨hk, rfl, rfl, rfl⟩)
 ·refine l_mv ?_
  refine l_ex ?_
  refine l_ex ?_
  refine e_alloc 4 [.is (.int .i64 0), .is (.string ⟨#[]⟩), .is (.int .i64 0), .is (.int .i64 0), .is (.int .i64 0)] rfl rfl rfl rfl zr_45 (fun w D M V => ⟨rfl, fun j x v h1 h2 => cfit_is _ h1 h2 rfl⟩) rfl rfl rfl rfl ?_
  refine e_storew rfl rfl rfl (kn rfl) rfl (kn rfl) rfl rfl sz_45 ?_
  refine l_as ?_
  refine e_nil ?_
  try refine e_fl ?_
  refine e_plain (w_mv rfl rfl rfl rfl rfl (w_op rfl rfl rfl (s_err_neq rfl (kn rfl) rfl ifc_28) .nil)) ?_
  try refine e_fl ?_
  refine c_yes ?_
  try refine e_fl ?_
  refine e_plain (w_mv rfl rfl rfl rfl rfl (w_as rfl rfl rfl rfl rfl .nil)) ?_
  try refine e_fl ?_
  exact e_returnx (pB l q) ([]) rfl (.tmp (kn rfl) (.nil)) (Imp.refl _) ⟨s_b, trivial⟩ trivial (.inl ⟨q, 9, q, by simp only [sSyn, ho, text_not hk], rfl, rfl, rfl⟩)
 refine l_mv ?_
 refine l_ex ?_
 refine l_ex ?_
 refine e_alloc 4 [.is (.int .i64 0), .is (.string ⟨#[]⟩), .is (.int .i64 0), .is (.int .i64 0), .is (.int .i64 0)] rfl rfl rfl rfl zr_45 (fun w D M V => ⟨rfl, fun j x v h1 h2 => cfit_is _ h1 h2 rfl⟩) rfl rfl rfl rfl ?_
 refine e_storew rfl rfl rfl (kn rfl) rfl (kn rfl) rfl rfl sz_45 ?_
 refine l_as ?_
 refine e_nil ?_
 try refine e_fl ?_
 refine e_plain (w_mv rfl rfl rfl rfl rfl (w_op rfl rfl rfl (s_nil_neq rfl (kn rfl) ifc_28) .nil)) ?_
 try refine e_fl ?_
 refine c_no ?_
 try refine e_fl ?_
 obtain ⟨hlt, hx⟩ := text_is hk
 refine e_plain (w_op rfl rfl rfl (s_faddr_box rfl (kn rfl) off_45_1) (w_op rfl rfl rfl (s_load1_box rfl (kn rfl) rfl rfl one_9) (w_op rfl rfl rfl (s_bin rfl (kn rfl) (kn rfl) (v_sneq (b := [112, 114, 111, 116, 111, 51]))) .nil))) ?_
 try refine e_fl ?_
 refine e_cond rfl (fun h => ?_) (fun h => ?_)
 ·have h1 : ¬ (tkAt l q).1.t = wProto3 := of_decide_eq_false (not_t h)
  try refine e_fl ?_
  refine e_plain (w_op rfl rfl rfl (s_loadn_box (ds := [_, _, _, _, _]) 5 rfl (kn rfl) rfl rfl agg_45 sz_45 rfl) (w_op rfl rfl rfl (s_load_gl rfl (kn rfl) (List.mem_cons_of_mem _ (List.mem_singleton.2 rfl)) one_28) (w_op rfl rfl rfl (s_call rfl (by kernel_rfl) (fault_ef _ l q E9) ⟨(kn rfl), ⟨(kn rfl), trivial⟩⟩) (w_as rfl rfl rfl rfl rfl .nil)))) ?_
  try refine e_fl ?_
  exact e_returnx (pB l (q + 1)) ([]) rfl (.tmp (kn rfl) (.nil)) (Imp.refl _) ⟨s_b, trivial⟩ trivial (.inl ⟨q, 9, q + 1, by simp only [sSyn, ho, hx, if_neg h1]; rfl, rfl, rfl, rfl⟩)
 have h1 : (tkAt l q).1.t = wProto3 := of_decide_eq_true (not_f h)
 have hw : sSyn l = sWant l 4 [59] (q + 1) := by simp only [sSyn, ho, hx, if_pos h1]
 try refine e_fl ?_
 refine e_list ?_
 refine l_mv ?_
 refine l_op (s_buildSlice (ds := [_]) [(0, _)] rfl ⟨rfl, (kn rfl), trivial⟩ rfl sl_49 sz_9 zr_9 (fun w D => .cons (.cell _) (.nil _ _)) rfl rfl rfl rfl rfl) ?_
 refine e_calli rfl rfl rfl rfl (by kernel_rfl) (want1_g E8 E9 l hl 4 [59] rfl (by decide) (q + 1) (by omega)) ⟨rfl, trivial⟩ trivial ⟨(kn rfl), ⟨(kn rfl), trivial⟩⟩ (PE.tidy) ?_
 rintro _ _ _ (⟨a, b, z, he, rfl, rfl, rfl⟩ | ⟨z, hz, rfl, rfl, rfl⟩)
 ·refine l_as ?_
  refine e_nil ?_
  try refine e_fl ?_
  exact e_returnx (pB l z) ([]) rfl (.tmp (kn rfl) (.nil)) (Imp.refl _) ⟨s_b, trivial⟩ trivial (.inl ⟨a, b, z, hw.trans he, rfl, rfl, rfl⟩)
 ·refine l_as ?_
  refine e_nil ?_
  try refine e_fl ?_
  exact e_returnx (pB l z) ([]) rfl (.tmp (kn rfl) (.nil)) (Imp.refl _) ⟨s_b, trivial⟩ trivial (.inr ⟨z, hw.trans hz, rfl, rfl, rfl⟩)
end Go.Proofs.YtfcjeciepadmeaaGreatDoor
