/- Part 19 of what the last text of this claim is proved by: walks over the program, and the math behind them. Conditions: as each theorem says. -/
import Derived.Test.YtekeanikgcpijaaDoorSO18
import Derived.Test.YtekeanikgcpijaaDoorProg
namespace Go.Proofs.YtekeanikgcpijaaDoor
open Go.RowKit
def sBlk {σ : Type} (l : List Tk) (least : Nat) (part : σ → Nat → Ans8 (σ × Nat)) : Nat → σ → Nat → Nat → Ans8 (σ × Nat)
 | 0, _, _, p => form8 p
 | n + 1, x, k, p =>
  if (!(decide (k < least) || !tkIs l p 4 [125])) = true then .ok (x, p + 1)
  else if tkIs l p 4 [59] then sBlk l least part n x k (p + 1)
  else
   match part x p with
   | .error e => .error e
   | .ok (y, q) => sBlk l least part n y (k + 1) q
def sBlock {σ : Type} (l : List Tk) (least : Nat) (part : σ → Nat → Ans8 (σ × Nat)) (x : σ) (p : Nat) : Ans8 (σ × Nat) :=
 match sWant l 4 [123] p with
 | .error e => .error e
 | .ok q => sBlk l least part (l.length + 1) x 0 q
abbrev enX (e : Enm) : Bx := ⟨77, [.is (.string (str e.name)), .own 300, .is (.int .i64 e.line), .is (.int .i64 e.col)]⟩
abbrev enR (e : Enm) : RL := [(300, ⟨137, 4, e.vals.length, e.vals.flatMap Val.dats, false⟩)]
abbrev enB (l : List Tk) (e : Enm) (q : Nat) : BL := [(1, pX l q), (6, enX e)]
abbrev VE (l : List Tk) (E8 E9 : Er) (r : Ans8 (Enm × Nat)) (y : IV) (B1 : BL) (R1 : RL) : Prop := ME l E8 E9 (enB l) enR r y B1 R1
theorem VE.tidy {l : List Tk} {E8 E9 : Er} {r : Ans8 (Enm × Nat)} {m : Enm} {q : Nat} (y : IV) (B1 : BL) (R1 : RL) (h : VE l E8 E9 r y B1 R1) : Tidy (enB l m q) (enR m) y B1 R1 := by
 rcases h with ⟨a, b, z, x, _, rfl, rfl, rfl⟩ | ⟨x, z, _, rfl, rfl, rfl⟩ <;> exact ⟨rfl, rfl, rfl, rfl⟩
def withVal (l : List Tk) (e : Enm) (p : Nat) : Ans8 (Enm × Nat) :=
 match sValue l p with
 | .error x => .error x
 | .ok (v, q) => .ok ({ e with vals := e.vals ++ [v] }, q)
theorem withVal_ok {l : List Tk} {e x : Enm} {p z : Nat} (h : withVal l e p = .ok (x, z)) : x.vals.length = e.vals.length + 1 ∧ p < z ∧ z ≤ l.length := by
 unfold withVal at h
 split at h
 ·cases h
 ·rename_i v q hv
  have := sValue_ok hv
  injection h with h
  injection h with h1 h2
  subst h1 h2
  exact ⟨by simp, by omega, by omega⟩
set_option maxRecDepth 100000 in
set_option maxHeartbeats 1000000 in
theorem value_g (E8 E9 : Er) (l : List Tk) (hl : PTk l) (e : Enm) (hev : e.vals.length ≤ 100000000000) (p : Nat) (hp : p ≤ 100000) : EG Tryd.prog (gE E8 E9) 68 [.box 1 0, .box 6 0] (enB l e p) (enR e) (VE l E8 E9 (withVal l e p)) := by
 refine eg_enter 58 Tryd.func68 rfl rfl rfl fun w D bor mb => ?_
 try refine e_fl ?_
 have hll := hl.len
 refine e_plain (w_as rfl rfl rfl rfl rfl .nil) ?_
 try refine e_fl ?_
 refine e_list ?_
 refine l_mv ?_
 refine e_calli rfl rfl rfl rfl (by kernel_rfl) (token_g E8 E9 l hl.toTksOk (p) 1 (by omega)) ⟨rfl, trivial⟩ trivial ⟨(kn rfl), ⟨(kn rfl), trivial⟩⟩ (TY.tidy) ?_
 rintro _ _ _ (⟨hk, rfl, rfl, rfl⟩ | ⟨hk, rfl, rfl, rfl⟩)
 ·refine l_mv ?_
  refine l_ex ?_
  refine l_ex ?_
  refine e_alloc 5 [.is (.int .i64 0), .is (.string ⟨#[]⟩), .is (.int .i64 0), .is (.int .i64 0), .is (.int .i64 0)] rfl rfl rfl rfl zr_67 (fun w D M V => ⟨rfl, fun j x v h1 h2 => cfit_is _ h1 h2 rfl⟩) rfl rfl rfl rfl ?_
  refine e_storew rfl rfl rfl (kn rfl) rfl (kn rfl) rfl rfl sz_67 ?_
  refine l_as ?_
  refine e_nil ?_
  try refine e_fl ?_
  refine e_plain (w_mv rfl rfl rfl rfl rfl (w_op rfl rfl rfl (s_err_neq rfl (kn rfl) rfl ifc_30) .nil)) ?_
  try refine e_fl ?_
  refine c_yes ?_
  try refine e_fl ?_
  refine e_plain (w_mv rfl rfl rfl rfl rfl (w_as rfl rfl rfl rfl rfl .nil)) ?_
  try refine e_fl ?_
  exact e_returnx (enB l e p) (enR e) rfl (.tmp (kn rfl) (.nil)) (Imp.refl _) ⟨s_b, s_b, trivial⟩ ⟨rfl, trivial⟩ (.inl ⟨p, 9, p, e, by simp only [withVal, sValue, name_not hk], rfl, rfl, rfl⟩)
 refine l_mv ?_
 refine l_ex ?_
 refine l_ex ?_
 refine e_alloc 5 [.is (.int .i64 0), .is (.string ⟨#[]⟩), .is (.int .i64 0), .is (.int .i64 0), .is (.int .i64 0)] rfl rfl rfl rfl zr_67 (fun w D M V => ⟨rfl, fun j x v h1 h2 => cfit_is _ h1 h2 rfl⟩) rfl rfl rfl rfl ?_
 refine e_storew rfl rfl rfl (kn rfl) rfl (kn rfl) rfl rfl sz_67 ?_
 refine l_as ?_
 refine e_nil ?_
 try refine e_fl ?_
 refine e_plain (w_mv rfl rfl rfl rfl rfl (w_op rfl rfl rfl (s_nil_neq rfl (kn rfl) ifc_30) .nil)) ?_
 try refine e_fl ?_
 refine c_no ?_
 try refine e_fl ?_
 obtain ⟨hlt0, hx⟩ := name_is hk
 refine e_list ?_
 refine l_mv ?_
 refine l_op (s_buildSlice (ds := [_]) [(0, _)] rfl ⟨rfl, (kn rfl), trivial⟩ rfl sl_45 sz_9 zr_9 (fun w D => .cons (.cell _) (.nil _ _)) rfl rfl rfl rfl rfl) ?_
 refine e_calli rfl rfl rfl rfl (by kernel_rfl) (want1_g E8 E9 l hl 4 [61] rfl (by decide) (p + 1) (by omega)) ⟨rfl, trivial⟩ trivial ⟨(kn rfl), ⟨(kn rfl), trivial⟩⟩ (PE.tidy) ?_
 rintro _ _ _ (⟨a, b, z, he, rfl, rfl, rfl⟩ | ⟨q, ho, rfl, rfl, rfl⟩)
 ·refine l_as ?_
  refine e_nil ?_
  try refine e_fl ?_
  refine e_plain (w_mv rfl rfl rfl rfl rfl (w_op rfl rfl rfl (s_err_neq rfl (kn rfl) rfl ifc_30) .nil)) ?_
  try refine e_fl ?_
  refine c_yes ?_
  try refine e_fl ?_
  refine e_plain (w_mv rfl rfl rfl rfl rfl (w_as rfl rfl rfl rfl rfl .nil)) ?_
  try refine e_fl ?_
  exact e_returnx (enB l e z) (enR e) rfl (.tmp (kn rfl) (.nil)) (Imp.refl _) ⟨s_b, s_b, trivial⟩ ⟨rfl, trivial⟩ (.inl ⟨a, b, z, e, by simp only [withVal, sValue, hx, he], rfl, rfl, rfl⟩)
 refine l_as ?_
 refine e_nil ?_
 try refine e_fl ?_
 refine e_plain (w_mv rfl rfl rfl rfl rfl (w_op rfl rfl rfl (s_nil_neq rfl (kn rfl) ifc_30) .nil)) ?_
 try refine e_fl ?_
 refine c_no ?_
 try refine e_fl ?_
 have ho1 := sWant_ok ho
 refine e_plain (w_as rfl rfl rfl rfl rfl .nil) ?_
 try refine e_fl ?_
 refine e_list ?_
 refine l_mv ?_
 refine l_op (s_buildSlice (ds := [_]) [(0, _)] rfl ⟨rfl, (kn rfl), trivial⟩ rfl sl_45 sz_9 zr_9 (fun w D => .cons (.cell _) (.nil _ _)) rfl rfl rfl rfl rfl) ?_
 refine e_calli rfl rfl rfl rfl (by kernel_rfl) (take1 _ l hl [45] 4 rfl (by decide) q (by omega)) ⟨rfl, trivial⟩ trivial ⟨(kn rfl), ⟨(kn rfl), trivial⟩⟩ (fun _ _ _ h => PY.tidy h.1 h.2.1 h.2.2) ?_
 rintro _ _ _ ⟨rfl, rfl, rfl⟩
 refine e_nil ?_
 try refine e_fl ?_
 refine e_cond rfl (fun h => ?_) (fun h => ?_)
 ·have hlt := tkIs_lt h
  rw [h]
  try refine e_fl ?_
  refine e_plain (w_as rfl rfl rfl rfl rfl .nil) ?_
  try refine e_fl ?_
  refine e_list ?_
  refine l_mv ?_
  refine e_calli rfl rfl rfl rfl (by kernel_rfl) (token_g E8 E9 l hl.toTksOk (q + 1) 2 (by omega)) ⟨rfl, trivial⟩ trivial ⟨(kn rfl), ⟨(kn rfl), trivial⟩⟩ (TY.tidy) ?_
  rintro _ _ _ (⟨hk2, rfl, rfl, rfl⟩ | ⟨hk2, rfl, rfl, rfl⟩)
  ·refine l_mv ?_
   refine l_ex ?_
   refine l_ex ?_
   refine e_alloc 9 [.is (.int .i64 0), .is (.string ⟨#[]⟩), .is (.int .i64 0), .is (.int .i64 0), .is (.int .i64 0)] rfl rfl rfl rfl zr_67 (fun w D M V => ⟨rfl, fun j x v h1 h2 => cfit_is _ h1 h2 rfl⟩) rfl rfl rfl rfl ?_
   refine e_storew rfl rfl rfl (kn rfl) rfl (kn rfl) rfl rfl sz_67 ?_
   refine l_as ?_
   refine e_nil ?_
   try refine e_fl ?_
   refine e_plain (w_mv rfl rfl rfl rfl rfl (w_op rfl rfl rfl (s_err_neq rfl (kn rfl) rfl ifc_30) .nil)) ?_
   try refine e_fl ?_
   refine c_yes ?_
   try refine e_fl ?_
   refine e_plain (w_mv rfl rfl rfl rfl rfl (w_as rfl rfl rfl rfl rfl .nil)) ?_
   try refine e_fl ?_
   exact e_returnx (enB l e (q + 1)) (enR e) rfl (.tmp (kn rfl) (.nil)) (Imp.refl _) ⟨s_b, s_b, trivial⟩ ⟨rfl, trivial⟩ (.inl ⟨q + 1, 9, q + 1, e, by simp only [withVal, sValue, hx, ho, h, if_true, number_not hk2], rfl, rfl, rfl⟩)
  refine l_mv ?_
  refine l_ex ?_
  refine l_ex ?_
  refine e_alloc 9 [.is (.int .i64 0), .is (.string ⟨#[]⟩), .is (.int .i64 0), .is (.int .i64 0), .is (.int .i64 0)] rfl rfl rfl rfl zr_67 (fun w D M V => ⟨rfl, fun j x v h1 h2 => cfit_is _ h1 h2 rfl⟩) rfl rfl rfl rfl ?_
  refine e_storew rfl rfl rfl (kn rfl) rfl (kn rfl) rfl rfl sz_67 ?_
  refine l_as ?_
  refine e_nil ?_
  try refine e_fl ?_
  refine e_plain (w_mv rfl rfl rfl rfl rfl (w_op rfl rfl rfl (s_nil_neq rfl (kn rfl) ifc_30) .nil)) ?_
  try refine e_fl ?_
  refine c_no ?_
  try refine e_fl ?_
  obtain ⟨hlt2, hnn⟩ := number_is hk2
  have hz3 := hl.num (q + 1)
  refine e_draw_float 17 mixed (by kernel_rfl) rfl rfl rfl rfl (kn rfl) (fun _ _ _ _ h => h) (w_mv rfl rfl rfl rfl rfl (w_op rfl rfl rfl (s_nil_box rfl (kn rfl)) (w_op rfl rfl rfl (s_faddr_box rfl (kn rfl) off_77_1) (w_op rfl rfl rfl (s_load1_box rfl (kn rfl) rfl rfl one_75) (w_op rfl rfl rfl (s_faddr_box rfl (kn rfl) off_67_1) (w_op rfl rfl rfl (s_load1_box rfl (kn rfl) rfl rfl one_9) (w_mv rfl rfl rfl rfl rfl (w_op rfl rfl rfl (s_faddr_box rfl (kn rfl) off_67_2) (w_op rfl rfl rfl (s_load1_box rfl (kn rfl) rfl rfl one_3) (w_op rfl rfl rfl (s_bin rfl (kn rfl) (kn rfl) (v_mul64 (by first | omega | (dsimp only; omega) | omega))) (w_op rfl rfl rfl (s_faddr_box rfl (kn rfl) off_67_3) (w_op rfl rfl rfl (s_load1_box rfl (kn rfl) rfl rfl one_3) (w_op rfl rfl rfl (s_faddr_box rfl (kn rfl) off_67_4) (w_op rfl rfl rfl (s_load1_box rfl (kn rfl) rfl rfl one_3) (w_op rfl rfl rfl (s_build (ds := [_, _, _, _]) [(0, _), (1, _), (2, _), (3, _)] rfl ⟨rfl, (kn rfl), ⟨rfl, (kn rfl), ⟨rfl, (kn rfl), ⟨rfl, (kn rfl), trivial⟩⟩⟩⟩ rfl pl_137 zr_137 (fun w D => .cons (.cell _) (.cons (.cell _) (.cons (.cell _) (.cons (.cell _) (.nil _ _))))) rfl) (w_op rfl rfl rfl (s_buildSlice (ds := [_, _, _, _]) [(0, _)] rfl ⟨rfl, (kn rfl), trivial⟩ rfl sl_75 sz_137 zr_137 (fun w D => .cons (.cell _) (.cons (.cell _) (.cons (.cell _) (.cons (.cell _) (.nil _ _))))) rfl rfl rfl rfl rfl) .nil)))))))))))))))) ?_
  refine e_append rfl rfl rfl rfl (kn rfl) rfl (kn rfl) sl_75 ap_75 rfl rfl (by first | omega | (dsimp only; omega) | omega) (by first | omega | (dsimp only; omega) | omega) ?_
  refine l_op (s_nil_box rfl (kn rfl)) ?_
  refine l_op (s_faddr_box rfl (kn rfl) off_77_1) ?_
  refine e_store_own rfl rfl rfl (kn rfl) rfl (kn rfl) rfl rfl sz_75 rfl ?_
  refine e_nil ?_
  try refine e_fl ?_
  refine e_list ?_
  refine l_mv ?_
  refine l_op (s_buildSlice (ds := [_]) [(0, _)] rfl ⟨rfl, (kn rfl), trivial⟩ rfl sl_45 sz_9 zr_9 (fun w D => .cons (.cell _) (.nil _ _)) rfl rfl rfl rfl rfl) ?_
  refine e_calli rfl rfl rfl rfl (by kernel_rfl) (want1_g E8 E9 l hl 4 [59] rfl (by decide) (q + 1 + 1) (by omega)) ⟨rfl, trivial⟩ trivial ⟨(kn rfl), ⟨(kn rfl), trivial⟩⟩ (PE.tidy) ?_
  rintro _ _ _ (⟨a, b, z, he, rfl, rfl, rfl⟩ | ⟨z, hz, rfl, rfl, rfl⟩)
  ·refine l_as ?_
   refine e_nil ?_
   try refine e_fl ?_
   exact e_returnx (enB l { e with vals := e.vals ++ [⟨(tkAt l p).1.t, (-1) * ((tkAt l (q + 1)).1.n : Int), (tkAt l p).2.1, (tkAt l p).2.2⟩] } z) (enR { e with vals := e.vals ++ [⟨(tkAt l p).1.t, (-1) * ((tkAt l (q + 1)).1.n : Int), (tkAt l p).2.1, (tkAt l p).2.2⟩] }) rfl (.tmp (kn rfl) (.nil)) (Imp.refl _) ⟨s_b, s_b, trivial⟩ ⟨rowEq rfl (by simp) (by simp [List.flatMap_append, Val.dats, Val.cells]), trivial⟩ (.inl ⟨a, b, z, _, by simp only [withVal, sValue, hx, ho, h, if_true, hnn, he], rfl, rfl, rfl⟩)
  ·refine l_as ?_
   refine e_nil ?_
   try refine e_fl ?_
   exact e_returnx (enB l { e with vals := e.vals ++ [⟨(tkAt l p).1.t, (-1) * ((tkAt l (q + 1)).1.n : Int), (tkAt l p).2.1, (tkAt l p).2.2⟩] } z) (enR { e with vals := e.vals ++ [⟨(tkAt l p).1.t, (-1) * ((tkAt l (q + 1)).1.n : Int), (tkAt l p).2.1, (tkAt l p).2.2⟩] }) rfl (.tmp (kn rfl) (.nil)) (Imp.refl _) ⟨s_b, s_b, trivial⟩ ⟨rowEq rfl (by simp) (by simp [List.flatMap_append, Val.dats, Val.cells]), trivial⟩ (.inr ⟨_, z, by simp only [withVal, sValue, hx, ho, h, if_true, hnn, hz, Int.neg_mul, Int.one_mul], rfl, rfl, rfl⟩)
 ·rw [h]
  try refine e_fl ?_
  refine e_list ?_
  refine l_mv ?_
  refine e_calli rfl rfl rfl rfl (by kernel_rfl) (token_g E8 E9 l hl.toTksOk (q) 2 (by omega)) ⟨rfl, trivial⟩ trivial ⟨(kn rfl), ⟨(kn rfl), trivial⟩⟩ (TY.tidy) ?_
  rintro _ _ _ (⟨hk2, rfl, rfl, rfl⟩ | ⟨hk2, rfl, rfl, rfl⟩)
  ·refine l_mv ?_
   refine l_ex ?_
   refine l_ex ?_
   refine e_alloc 9 [.is (.int .i64 0), .is (.string ⟨#[]⟩), .is (.int .i64 0), .is (.int .i64 0), .is (.int .i64 0)] rfl rfl rfl rfl zr_67 (fun w D M V => ⟨rfl, fun j x v h1 h2 => cfit_is _ h1 h2 rfl⟩) rfl rfl rfl rfl ?_
   refine e_storew rfl rfl rfl (kn rfl) rfl (kn rfl) rfl rfl sz_67 ?_
   refine l_as ?_
   refine e_nil ?_
   try refine e_fl ?_
   refine e_plain (w_mv rfl rfl rfl rfl rfl (w_op rfl rfl rfl (s_err_neq rfl (kn rfl) rfl ifc_30) .nil)) ?_
   try refine e_fl ?_
   refine c_yes ?_
   try refine e_fl ?_
   refine e_plain (w_mv rfl rfl rfl rfl rfl (w_as rfl rfl rfl rfl rfl .nil)) ?_
   try refine e_fl ?_
   exact e_returnx (enB l e (q)) (enR e) rfl (.tmp (kn rfl) (.nil)) (Imp.refl _) ⟨s_b, s_b, trivial⟩ ⟨rfl, trivial⟩ (.inl ⟨q, 9, q, e, by simp only [withVal, sValue, hx, ho, h, number_not hk2]; rfl, rfl, rfl, rfl⟩)
  refine l_mv ?_
  refine l_ex ?_
  refine l_ex ?_
  refine e_alloc 9 [.is (.int .i64 0), .is (.string ⟨#[]⟩), .is (.int .i64 0), .is (.int .i64 0), .is (.int .i64 0)] rfl rfl rfl rfl zr_67 (fun w D M V => ⟨rfl, fun j x v h1 h2 => cfit_is _ h1 h2 rfl⟩) rfl rfl rfl rfl ?_
  refine e_storew rfl rfl rfl (kn rfl) rfl (kn rfl) rfl rfl sz_67 ?_
  refine l_as ?_
  refine e_nil ?_
  try refine e_fl ?_
  refine e_plain (w_mv rfl rfl rfl rfl rfl (w_op rfl rfl rfl (s_nil_neq rfl (kn rfl) ifc_30) .nil)) ?_
  try refine e_fl ?_
  refine c_no ?_
  try refine e_fl ?_
  obtain ⟨hlt2, hnn⟩ := number_is hk2
  have hz3 := hl.num (q)
  refine e_draw_float 17 mixed (by kernel_rfl) rfl rfl rfl rfl (kn rfl) (fun _ _ _ _ h => h) (w_mv rfl rfl rfl rfl rfl (w_op rfl rfl rfl (s_nil_box rfl (kn rfl)) (w_op rfl rfl rfl (s_faddr_box rfl (kn rfl) off_77_1) (w_op rfl rfl rfl (s_load1_box rfl (kn rfl) rfl rfl one_75) (w_op rfl rfl rfl (s_faddr_box rfl (kn rfl) off_67_1) (w_op rfl rfl rfl (s_load1_box rfl (kn rfl) rfl rfl one_9) (w_mv rfl rfl rfl rfl rfl (w_op rfl rfl rfl (s_faddr_box rfl (kn rfl) off_67_2) (w_op rfl rfl rfl (s_load1_box rfl (kn rfl) rfl rfl one_3) (w_op rfl rfl rfl (s_bin rfl (kn rfl) (kn rfl) (v_mul64 (by first | omega | (dsimp only; omega) | omega))) (w_op rfl rfl rfl (s_faddr_box rfl (kn rfl) off_67_3) (w_op rfl rfl rfl (s_load1_box rfl (kn rfl) rfl rfl one_3) (w_op rfl rfl rfl (s_faddr_box rfl (kn rfl) off_67_4) (w_op rfl rfl rfl (s_load1_box rfl (kn rfl) rfl rfl one_3) (w_op rfl rfl rfl (s_build (ds := [_, _, _, _]) [(0, _), (1, _), (2, _), (3, _)] rfl ⟨rfl, (kn rfl), ⟨rfl, (kn rfl), ⟨rfl, (kn rfl), ⟨rfl, (kn rfl), trivial⟩⟩⟩⟩ rfl pl_137 zr_137 (fun w D => .cons (.cell _) (.cons (.cell _) (.cons (.cell _) (.cons (.cell _) (.nil _ _))))) rfl) (w_op rfl rfl rfl (s_buildSlice (ds := [_, _, _, _]) [(0, _)] rfl ⟨rfl, (kn rfl), trivial⟩ rfl sl_75 sz_137 zr_137 (fun w D => .cons (.cell _) (.cons (.cell _) (.cons (.cell _) (.cons (.cell _) (.nil _ _))))) rfl rfl rfl rfl rfl) .nil)))))))))))))))) ?_
  refine e_append rfl rfl rfl rfl (kn rfl) rfl (kn rfl) sl_75 ap_75 rfl rfl (by first | omega | (dsimp only; omega) | omega) (by first | omega | (dsimp only; omega) | omega) ?_
  refine l_op (s_nil_box rfl (kn rfl)) ?_
  refine l_op (s_faddr_box rfl (kn rfl) off_77_1) ?_
  refine e_store_own rfl rfl rfl (kn rfl) rfl (kn rfl) rfl rfl sz_75 rfl ?_
  refine e_nil ?_
  try refine e_fl ?_
  refine e_list ?_
  refine l_mv ?_
  refine l_op (s_buildSlice (ds := [_]) [(0, _)] rfl ⟨rfl, (kn rfl), trivial⟩ rfl sl_45 sz_9 zr_9 (fun w D => .cons (.cell _) (.nil _ _)) rfl rfl rfl rfl rfl) ?_
  refine e_calli rfl rfl rfl rfl (by kernel_rfl) (want1_g E8 E9 l hl 4 [59] rfl (by decide) (q + 1) (by omega)) ⟨rfl, trivial⟩ trivial ⟨(kn rfl), ⟨(kn rfl), trivial⟩⟩ (PE.tidy) ?_
  rintro _ _ _ (⟨a, b, z, he, rfl, rfl, rfl⟩ | ⟨z, hz, rfl, rfl, rfl⟩)
  ·refine l_as ?_
   refine e_nil ?_
   try refine e_fl ?_
   exact e_returnx (enB l { e with vals := e.vals ++ [⟨(tkAt l p).1.t, 1 * ((tkAt l (q)).1.n : Int), (tkAt l p).2.1, (tkAt l p).2.2⟩] } z) (enR { e with vals := e.vals ++ [⟨(tkAt l p).1.t, 1 * ((tkAt l (q)).1.n : Int), (tkAt l p).2.1, (tkAt l p).2.2⟩] }) rfl (.tmp (kn rfl) (.nil)) (Imp.refl _) ⟨s_b, s_b, trivial⟩ ⟨rowEq rfl (by simp) (by simp [List.flatMap_append, Val.dats, Val.cells]), trivial⟩ (.inl ⟨a, b, z, _, by simp only [withVal, sValue, hx, ho, h, hnn, he]; rfl, rfl, rfl, rfl⟩)
  ·refine l_as ?_
   refine e_nil ?_
   try refine e_fl ?_
   exact e_returnx (enB l { e with vals := e.vals ++ [⟨(tkAt l p).1.t, 1 * ((tkAt l (q)).1.n : Int), (tkAt l p).2.1, (tkAt l p).2.2⟩] } z) (enR { e with vals := e.vals ++ [⟨(tkAt l p).1.t, 1 * ((tkAt l (q)).1.n : Int), (tkAt l p).2.1, (tkAt l p).2.2⟩] }) rfl (.tmp (kn rfl) (.nil)) (Imp.refl _) ⟨s_b, s_b, trivial⟩ ⟨rowEq rfl (by simp) (by simp [List.flatMap_append, Val.dats, Val.cells]), trivial⟩ (.inr ⟨_, z, by simp only [withVal, sValue, hx, ho, h, hnn, hz, Int.one_mul]; rfl, rfl, rfl, rfl⟩)
abbrev enB4 (l : List Tk) (e : Enm) (q : Nat) : BL := [(4, ptX), (1, pX l q), (6, enX e)]
abbrev VE4 (l : List Tk) (E8 E9 : Er) (r : Ans8 (Enm × Nat)) (y : IV) (B1 : BL) (R1 : RL) : Prop := ME l E8 E9 (enB4 l) enR r y B1 R1
theorem VE4.tidy {l : List Tk} {E8 E9 : Er} {r : Ans8 (Enm × Nat)} {m : Enm} {q : Nat} (y : IV) (B1 : BL) (R1 : RL) (h : VE4 l E8 E9 r y B1 R1) : Tidy (enB4 l m q) (enR m) y B1 R1 := by
 rcases h with ⟨a, b, z, x, _, rfl, rfl, rfl⟩ | ⟨x, z, _, rfl, rfl, rfl⟩ <;> exact ⟨rfl, rfl, rfl, rfl⟩
abbrev cloE : IV := .clo (.func 67) [] [.box 4 0, .box 6 0]
set_option maxRecDepth 100000 in
theorem cloE_g (E8 E9 : Er) (l : List Tk) (hl : PTk l) (e : Enm) (hev : e.vals.length ≤ 100000000000) (p : Nat) (hp : p ≤ 100000) : EG Tryd.prog (gE E8 E9) 67 [.box 4 0, .box 6 0] (enB4 l e p) (enR e) (VE4 l E8 E9 (withVal l e p)) := by
 refine eg_enter 5 Tryd.func67 rfl rfl rfl fun w D bor mb => ?_
 try refine e_fl ?_
 refine e_plain (w_as rfl rfl rfl rfl rfl .nil) ?_
 try refine e_fl ?_
 refine e_list ?_
 refine l_op (s_load1_box rfl (kn rfl) rfl rfl one_86) ?_
 refine e_calli rfl rfl rfl rfl (by kernel_rfl) (value_g E8 E9 l hl e hev p hp) ⟨rfl, rfl, trivial⟩ ⟨rfl, trivial⟩ ⟨(kn rfl), ⟨(kn rfl), trivial⟩⟩ (VE.tidy) ?_
 rintro _ _ _ (⟨a, b, z, g, he, rfl, rfl, rfl⟩ | ⟨g, z, ho, rfl, rfl, rfl⟩)
 ·refine l_as ?_
  refine e_nil ?_
  try refine e_fl ?_
  exact e_returnx (enB4 l g z) (enR g) rfl (.tmp (kn rfl) (.nil)) (Imp.refl _) ⟨s_b, s_b, s_b, trivial⟩ ⟨rfl, trivial⟩ (.inl ⟨a, b, z, g, he, rfl, rfl, rfl⟩)
 ·refine l_as ?_
  refine e_nil ?_
  try refine e_fl ?_
  exact e_returnx (enB4 l g z) (enR g) rfl (.tmp (kn rfl) (.nil)) (Imp.refl _) ⟨s_b, s_b, s_b, trivial⟩ ⟨rfl, trivial⟩ (.inr ⟨g, z, ho, rfl, rfl, rfl⟩)
def Bd_blkE (e : Enm) (z : Nat) : Prop := e.vals.length ≤ z
set_option maxRecDepth 100000 in
set_option maxHeartbeats 2000000 in
theorem blkE (E8 E9 : Er) (l : List Tk) (hl : PTk l) (x0 : Enm) (p : Nat) (hp : p ≤ 100000) (hx0 : ∀ q, p < q → Bd_blkE x0 q) : EG Tryd.prog (gE E8 E9) 64 [.box 1 0, .part (iP 1), cloE] (enB4 l x0 p) (enR x0) (ME l E8 E9 (enB4 l) (enR) (sBlock l 1 (withVal l) x0 p)) := by
 refine eg_enter 35 Tryd.func64 rfl rfl rfl fun w D bor mb => ?_
 try refine e_fl ?_
 have hll := hl.len
 obtain ⟨rr, hrr⟩ : ∃ rr, rr = sBlock l 1 (withVal l) x0 p := ⟨_, rfl⟩
 rw [← hrr]
 refine e_plain (w_as rfl rfl rfl rfl rfl .nil) ?_
 try refine e_fl ?_
 refine e_list ?_
 refine l_mv ?_
 refine l_op (s_buildSlice (ds := [_]) [(0, _)] rfl ⟨rfl, (kn rfl), trivial⟩ rfl sl_45 sz_9 zr_9 (fun w D => .cons (.cell _) (.nil _ _)) rfl rfl rfl rfl rfl) ?_
 refine e_calli rfl rfl rfl rfl (by kernel_rfl) (want1_g E8 E9 l hl 4 [123] rfl (by decide) p (by omega)) ⟨rfl, trivial⟩ trivial ⟨(kn rfl), ⟨(kn rfl), trivial⟩⟩ (PE.tidy) ?_
 rintro _ _ _ (⟨a, b, z, he, rfl, rfl, rfl⟩ | ⟨q0, ho, rfl, rfl, rfl⟩)
 ·refine l_as ?_
  refine e_nil ?_
  try refine e_fl ?_
  refine e_plain (w_mv rfl rfl rfl rfl rfl (w_op rfl rfl rfl (s_err_neq rfl (kn rfl) rfl ifc_30) .nil)) ?_
  try refine e_fl ?_
  refine c_yes ?_
  try refine e_fl ?_
  refine e_plain (w_mv rfl rfl rfl rfl rfl (w_as rfl rfl rfl rfl rfl .nil)) ?_
  try refine e_fl ?_
  exact e_returnx (enB4 l x0 z) (enR x0) rfl (.tmp (kn rfl) (.nil)) (Imp.refl _) ⟨s_b, s_b, s_b, trivial⟩ ⟨rfl, trivial⟩ (.inl ⟨a, b, z, x0, by rw [hrr, sBlock, he], rfl, rfl, rfl⟩)
 have ho1 := sWant_ok ho
 refine l_as ?_
 refine e_nil ?_
 try refine e_fl ?_
 refine e_plain (w_mv rfl rfl rfl rfl rfl (w_op rfl rfl rfl (s_nil_neq rfl (kn rfl) ifc_30) .nil)) ?_
 try refine e_fl ?_
 refine c_no ?_
 try refine e_fl ?_
 refine e_plain (w_as rfl rfl rfl rfl rfl .nil) ?_
 try refine e_fl ?_
 rw [sBlock, ho] at hrr
 dsimp only at hrr
 refine e_loop (ι := { i : Nat × Enm × Nat × Nat // 1 ≤ i.1 ∧ l.length + 1 ≤ i.1 + i.2.2.2 ∧ i.2.2.2 ≤ l.length ∧ i.2.2.1 ≤ i.2.2.2 ∧ Bd_blkE i.2.1 i.2.2.2 ∧ rr = sBlk l 1 (withVal l) i.1 i.2.1 i.2.2.1 i.2.2.2 })
  (fun i => [(0, .box 1 0), (1, .part (iP 1)), (2, cloE), (8, .is (.int .i64 (i.1.2.2.1 : Int)))])
  (fun i => enB4 l i.1.2.1 i.1.2.2.2) (fun i => enR i.1.2.1)
  (fun i => i.1.1) ⟨(l.length + 1, x0, 0, q0), by omega, by dsimp only; omega, by dsimp only; omega, by dsimp only; omega, hx0 q0 (by omega), hrr⟩
  (fun K => e_sub ⟨s_t, s_t, s_t, s_t, trivial⟩ ⟨s_b, s_b, s_b, trivial⟩ ⟨rfl, trivial⟩) ?_
 rintro ⟨⟨n', x, k, q⟩, hn1, hn, hq, hk, hbd, hw⟩
 dsimp only at hn1 hn hq hk hbd hw ⊢
 obtain ⟨n, rfl⟩ : ∃ n, n' = n + 1 := ⟨n' - 1, by omega⟩
 rw [sBlk] at hw
 try refine e_fl ?_
 refine e_list ?_
 refine l_mv ?_
 refine l_mv ?_
 refine l_op (s_bin rfl (kn rfl) (kn rfl) v_lss) ?_
 refine l_mv ?_
 refine e_list_gd rfl rfl rfl (fun h => s_move rfl (kn rfl)) ?_
 refine e_list_gd rfl rfl rfl (fun h => s_buildSlice (ds := [_]) [(0, _)] rfl ⟨rfl, (kn rfl), trivial⟩ rfl sl_45 sz_9 zr_9 (fun w D => .cons (.cell _) (.nil _ _)) rfl rfl rfl rfl rfl) ?_
 refine e_guard rfl rfl rfl (fun h => ?_) (fun h => ?_)
 ·have hkl : ¬ k < 1 := by
   have h0 := of_decide_eq_false (not_t h)
   omega
  refine e_calli rfl rfl rfl rfl (by kernel_rfl) (take1 _ l hl [125] 4 rfl (by decide) q (by omega)) ⟨rfl, trivial⟩ trivial ⟨(kn_opt rfl h), ⟨(kn_opt rfl h), trivial⟩⟩ (fun _ _ _ h => PY.tidy h.1 h.2.1 h.2.2) ?_
  rintro _ _ _ ⟨rfl, rfl, rfl⟩
  refine e_list_gd rfl rfl rfl (fun h => s_not rfl (kn rfl)) ?_
  refine l_op (s_or rfl (kn rfl) (fun hb => kn_opt rfl hb)) ?_
  refine e_nil ?_
  try refine e_fl ?_
  have h0 := not_t h
  rw [h0, Bool.false_or]
  rw [decide_eq_false hkl, Bool.false_or] at hw
  cases h1 : tkIs l q 4 [125]
  ·rw [h1] at hw
   rw [if_neg (by decide)] at hw
   refine c_yes ?_
   try refine e_fl ?_
   refine e_list ?_
   refine l_mv ?_
   refine l_op (s_buildSlice (ds := [_]) [(0, _)] rfl ⟨rfl, (kn rfl), trivial⟩ rfl sl_45 sz_9 zr_9 (fun w D => .cons (.cell _) (.nil _ _)) rfl rfl rfl rfl rfl) ?_
   refine e_calli rfl rfl rfl rfl (by kernel_rfl) (take1 _ l hl [59] 4 rfl (by decide) q (by omega)) ⟨rfl, trivial⟩ trivial ⟨(kn rfl), ⟨(kn rfl), trivial⟩⟩ (fun _ _ _ h => PY.tidy h.1 h.2.1 h.2.2) ?_
   rintro _ _ _ ⟨rfl, rfl, rfl⟩
   refine e_nil ?_
   try refine e_fl ?_
   refine e_cond rfl (fun h2 => ?_) (fun h2 => ?_)
   ·have hlt := tkIs_lt h2
    rw [if_pos h2] at hw
    rw [h2]
    try refine e_fl ?_
    refine e_again ⟨(n, x, k, q + 1), by omega, by dsimp only; omega, by dsimp only; omega, by dsimp only; omega, Nat.le_trans hbd (by dsimp only; omega), hw⟩ (by dsimp only; omega) (fun K => e_sub ⟨s_t, s_t, s_t, s_t, trivial⟩ ⟨s_b, s_b, s_b, trivial⟩ ⟨rfl, trivial⟩)
   rw [if_neg (by rw [h2]; decide)] at hw
   rw [h2]
   try refine e_fl ?_
   refine e_list ?_
   refine l_mv ?_
   refine e_callci (zs := []) rfl rfl rfl rfl (by kernel_rfl) (cloE_g E8 E9 l hl x (by have : x.vals.length ≤ q := hbd; omega) q (by omega)) ⟨rfl, rfl, rfl, trivial⟩ ⟨rfl, trivial⟩ (kn rfl) trivial rfl (VE4.tidy) ?_
   rintro _ _ _ (⟨a, b, z, g, he, rfl, rfl, rfl⟩ | ⟨y, r, ho, rfl, rfl, rfl⟩)
   ·refine l_as ?_
    refine e_nil ?_
    try refine e_fl ?_
    refine e_plain (w_mv rfl rfl rfl rfl rfl (w_op rfl rfl rfl (s_err_neq rfl (kn rfl) rfl ifc_30) .nil)) ?_
    try refine e_fl ?_
    refine c_yes ?_
    try refine e_fl ?_
    refine e_plain (w_mv rfl rfl rfl rfl rfl (w_as rfl rfl rfl rfl rfl .nil)) ?_
    try refine e_fl ?_
    exact e_returnx (enB4 l g z) (enR g) rfl (.tmp (kn rfl) (.nil)) (Imp.refl _) ⟨s_b, s_b, s_b, trivial⟩ ⟨rfl, trivial⟩ (.inl ⟨a, b, z, g, by rw [hw, he], rfl, rfl, rfl⟩)
   rw [ho] at hw
   dsimp only at hw
   obtain ⟨hv1, hv2, hv3⟩ := withVal_ok ho
   refine l_as ?_
   refine e_nil ?_
   try refine e_fl ?_
   refine e_plain (w_mv rfl rfl rfl rfl rfl (w_op rfl rfl rfl (s_nil_neq rfl (kn rfl) ifc_30) .nil)) ?_
   try refine e_fl ?_
   refine c_no ?_
   try refine e_fl ?_
   refine e_plain (w_mv rfl rfl rfl rfl rfl (w_op rfl rfl rfl (s_bin rfl (kn rfl) (kn rfl) (v_add64 (by first | omega | (dsimp only; omega) | omega))) (w_as rfl rfl rfl rfl rfl .nil))) ?_
   try refine e_fl ?_
   refine e_again ⟨(n, y, k + 1, r), by omega, by dsimp only; omega, by dsimp only; omega, by dsimp only; omega, by have : x.vals.length ≤ q := hbd; show y.vals.length ≤ r; omega, hw⟩ (by dsimp only; omega) (fun K => e_sub ⟨s_t, s_t, s_t, s_t, trivial⟩ ⟨s_b, s_b, s_b, trivial⟩ ⟨rfl, trivial⟩)
  ·rw [h1] at hw
   rw [if_pos (by decide)] at hw
   refine c_no ?_
   try refine e_fl ?_
   refine e_plain (w_as rfl rfl rfl rfl rfl .nil) ?_
   try refine e_fl ?_
   exact e_returnx (enB4 l x (q + 1)) (enR x) rfl (.tmp (kn rfl) (.nil)) (Imp.refl _) ⟨s_b, s_b, s_b, trivial⟩ ⟨rfl, trivial⟩ (.inr ⟨x, q + 1, hw, rfl, rfl, rfl⟩)
 ·have hkl : k < 1 := by
   have h0 := of_decide_eq_true (not_f h)
   omega
  have h0 := not_f h
  refine e_list_gd (y := .is (.bool false)) rfl rfl rfl (fun h' => absurd (h'.symm.trans h) (by decide)) ?_
  refine l_op (s_or rfl (kn rfl) (fun hb => kn_opt rfl hb)) ?_
  refine e_nil ?_
  try refine e_fl ?_
  rw [h0, Bool.true_or]
  rw [decide_eq_true hkl, Bool.true_or] at hw
  rw [if_neg (by decide)] at hw
  refine c_yes ?_
  try refine e_fl ?_
  refine e_list ?_
  refine l_mv ?_
  refine l_op (s_buildSlice (ds := [_]) [(0, _)] rfl ⟨rfl, (kn rfl), trivial⟩ rfl sl_45 sz_9 zr_9 (fun w D => .cons (.cell _) (.nil _ _)) rfl rfl rfl rfl rfl) ?_
  refine e_calli rfl rfl rfl rfl (by kernel_rfl) (take1 _ l hl [59] 4 rfl (by decide) q (by omega)) ⟨rfl, trivial⟩ trivial ⟨(kn rfl), ⟨(kn rfl), trivial⟩⟩ (fun _ _ _ h => PY.tidy h.1 h.2.1 h.2.2) ?_
  rintro _ _ _ ⟨rfl, rfl, rfl⟩
  refine e_nil ?_
  try refine e_fl ?_
  refine e_cond rfl (fun h2 => ?_) (fun h2 => ?_)
  ·have hlt := tkIs_lt h2
   rw [if_pos h2] at hw
   rw [h2]
   try refine e_fl ?_
   refine e_again ⟨(n, x, k, q + 1), by omega, by dsimp only; omega, by dsimp only; omega, by dsimp only; omega, Nat.le_trans hbd (by dsimp only; omega), hw⟩ (by dsimp only; omega) (fun K => e_sub ⟨s_t, s_t, s_t, s_t, trivial⟩ ⟨s_b, s_b, s_b, trivial⟩ ⟨rfl, trivial⟩)
  rw [if_neg (by rw [h2]; decide)] at hw
  rw [h2]
  try refine e_fl ?_
  refine e_list ?_
  refine l_mv ?_
  refine e_callci (zs := []) rfl rfl rfl rfl (by kernel_rfl) (cloE_g E8 E9 l hl x (by have : x.vals.length ≤ q := hbd; omega) q (by omega)) ⟨rfl, rfl, rfl, trivial⟩ ⟨rfl, trivial⟩ (kn rfl) trivial rfl (VE4.tidy) ?_
  rintro _ _ _ (⟨a, b, z, g, he, rfl, rfl, rfl⟩ | ⟨y, r, ho, rfl, rfl, rfl⟩)
  ·refine l_as ?_
   refine e_nil ?_
   try refine e_fl ?_
   refine e_plain (w_mv rfl rfl rfl rfl rfl (w_op rfl rfl rfl (s_err_neq rfl (kn rfl) rfl ifc_30) .nil)) ?_
   try refine e_fl ?_
   refine c_yes ?_
   try refine e_fl ?_
   refine e_plain (w_mv rfl rfl rfl rfl rfl (w_as rfl rfl rfl rfl rfl .nil)) ?_
   try refine e_fl ?_
   exact e_returnx (enB4 l g z) (enR g) rfl (.tmp (kn rfl) (.nil)) (Imp.refl _) ⟨s_b, s_b, s_b, trivial⟩ ⟨rfl, trivial⟩ (.inl ⟨a, b, z, g, by rw [hw, he], rfl, rfl, rfl⟩)
  rw [ho] at hw
  dsimp only at hw
  obtain ⟨hv1, hv2, hv3⟩ := withVal_ok ho
  refine l_as ?_
  refine e_nil ?_
  try refine e_fl ?_
  refine e_plain (w_mv rfl rfl rfl rfl rfl (w_op rfl rfl rfl (s_nil_neq rfl (kn rfl) ifc_30) .nil)) ?_
  try refine e_fl ?_
  refine c_no ?_
  try refine e_fl ?_
  refine e_plain (w_mv rfl rfl rfl rfl rfl (w_op rfl rfl rfl (s_bin rfl (kn rfl) (kn rfl) (v_add64 (by first | omega | (dsimp only; omega) | omega))) (w_as rfl rfl rfl rfl rfl .nil))) ?_
  try refine e_fl ?_
  refine e_again ⟨(n, y, k + 1, r), by omega, by dsimp only; omega, by dsimp only; omega, by dsimp only; omega, by have : x.vals.length ≤ q := hbd; show y.vals.length ≤ r; omega, hw⟩ (by dsimp only; omega) (fun K => e_sub ⟨s_t, s_t, s_t, s_t, trivial⟩ ⟨s_b, s_b, s_b, trivial⟩ ⟨rfl, trivial⟩)
end Go.Proofs.YtekeanikgcpijaaDoor
