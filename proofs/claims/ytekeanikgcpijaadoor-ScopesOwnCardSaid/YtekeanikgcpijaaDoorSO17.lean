/- Part 17 of what the last text of this claim is proved by: walks over the program, and the math behind them. Conditions: as each theorem says. -/
import Derived.Test.YtekeanikgcpijaaDoorSO16
import Derived.Test.YtekeanikgcpijaaDoorProg
namespace Go.Proofs.YtekeanikgcpijaaDoor
open Go.RowKit
def sFieldF (l : List Tk) (f : Fld) (p : Nat) : Ans8 (Fld × Nat) :=
 match sDotted l true p with
 | .error e => .error e
 | .ok (s, q) => sRest l { f with type := s } q
set_option maxRecDepth 100000 in
theorem field_g (E8 E9 : Er) (l : List Tk) (hl : PTk l) (m : Msg) (hm : Small m 100000000000) (f : Fld) (p : Nat) (hp : p ≤ 100000) : EG Tryd.prog (gE E8 E9) 79 [.box 1 0, .box 3 0, .part (.many f.dats)] (mS l m p) (pmR m) (NE l E8 E9 (withFld m (sFieldF l f p))) := by
 refine eg_enter 21 Tryd.func79 rfl rfl rfl fun w D bor mb => ?_
 try refine e_fl ?_
 have hll := hl.len
 refine e_list ?_
 refine e_box 5 rfl rfl rfl rfl (kn rfl) rfl rfl rfl rfl ?_
 refine l_as ?_
 refine e_nil ?_
 try refine e_fl ?_
 refine e_plain (w_as rfl rfl rfl rfl rfl .nil) ?_
 try refine e_fl ?_
 refine e_list ?_
 refine l_mv ?_
 refine e_calli rfl rfl rfl rfl (by kernel_rfl) (typeName_g E8 E9 l hl (p) (by omega)) ⟨rfl, trivial⟩ trivial ⟨(kn rfl), trivial⟩ (QE.tidy) ?_
 rintro _ _ _ (⟨a, b, z, s, _, he, rfl, rfl, rfl⟩ | ⟨s, q, hs, rfl, rfl, rfl⟩)
 ·refine l_mv ?_
  refine l_ex ?_
  refine l_ex ?_
  refine l_op (s_faddr_box rfl (kn rfl) off_135_1) ?_
  refine e_store1 rfl rfl rfl (kn rfl) rfl (kn rfl) rfl rfl sz_9 rfl ?_
  refine l_as ?_
  refine e_nil ?_
  try refine e_fl ?_
  refine e_plain (w_mv rfl rfl rfl rfl rfl (w_op rfl rfl rfl (s_err_neq rfl (kn rfl) rfl ifc_30) .nil)) ?_
  try refine e_fl ?_
  refine c_yes ?_
  try refine e_fl ?_
  refine e_plain (w_mv rfl rfl rfl rfl rfl (w_as rfl rfl rfl rfl rfl .nil)) ?_
  try refine e_fl ?_
  exact e_returnx (mS l m z) (pmR m) rfl (.tmp (kn rfl) (.nil)) (Imp.refl _) ⟨s_b, s_b, trivial⟩ ⟨rfl, rfl, rfl, rfl, rfl, rfl, trivial⟩ (.inl ⟨a, b, z, m, by simp only [withFld, sFieldF, he], rfl, rfl, rfl⟩)
 refine l_mv ?_
 refine l_ex ?_
 refine l_ex ?_
 refine l_op (s_faddr_box rfl (kn rfl) off_135_1) ?_
 refine e_store1 rfl rfl rfl (kn rfl) rfl (kn rfl) rfl rfl sz_9 rfl ?_
 refine l_as ?_
 refine e_nil ?_
 try refine e_fl ?_
 refine e_plain (w_mv rfl rfl rfl rfl rfl (w_op rfl rfl rfl (s_nil_neq rfl (kn rfl) ifc_30) .nil)) ?_
 try refine e_fl ?_
 refine c_no ?_
 try refine e_fl ?_
 have hs1 := sDotted_ok hs
 refine e_list ?_
 refine l_mv ?_
 refine l_mv ?_
 refine l_op (s_loadn_box (ds := [_, _, _, _, _, _, _, _, _, _]) 10 rfl (kn rfl) rfl rfl agg_135 sz_135 rfl) ?_
 refine e_calli rfl rfl rfl rfl (by kernel_rfl) (named_g E8 E9 l hl m hm.1 { f with type := s } (q) (by omega)) ⟨rfl, rfl, trivial⟩ ⟨rfl, rfl, rfl, rfl, rfl, rfl, trivial⟩ ⟨(kn rfl), ⟨(kn rfl), ⟨(kn rfl), trivial⟩⟩⟩ (NE.tidy) ?_
 rintro _ _ _ (⟨a, b, z, x, he, rfl, rfl, rfl⟩ | ⟨x, z, hz, rfl, rfl, rfl⟩)
 ·refine l_as ?_
  refine e_nil ?_
  try refine e_fl ?_
  exact e_returnx (mS l x z) (pmR x) rfl (.tmp (kn rfl) (.nil)) (Imp.refl _) ⟨s_b, s_b, trivial⟩ ⟨rfl, rfl, rfl, rfl, rfl, rfl, trivial⟩ (.inl ⟨a, b, z, x, by rw [← he]; simp only [withFld, sFieldF, hs], rfl, rfl, rfl⟩)
 ·refine l_as ?_
  refine e_nil ?_
  try refine e_fl ?_
  exact e_returnx (mS l x z) (pmR x) rfl (.tmp (kn rfl) (.nil)) (Imp.refl _) ⟨s_b, s_b, trivial⟩ ⟨rfl, rfl, rfl, rfl, rfl, rfl, trivial⟩ (.inr ⟨x, z, by rw [← hz]; simp only [withFld, sFieldF, hs], rfl, rfl, rfl⟩)
set_option maxRecDepth 100000 in
set_option maxHeartbeats 1000000 in
theorem mapField_g (E8 E9 : Er) (l : List Tk) (hl : PTk l) (m : Msg) (hm : Small m 100000000000) (p : Nat) (hp : p ≤ 100000) (hlt : tkIs l p 4 [60] = true) : EG Tryd.prog (gE E8 E9) 80 [.box 1 0, .box 3 0] (mS l m (p + 1)) (pmR m) (NE l E8 E9 (withFld m (sMapped l p))) := by
 refine eg_enter 47 Tryd.func80 rfl rfl rfl fun w D bor mb => ?_
 try refine e_fl ?_
 have hll := hl.len
 have hlt1 := tkIs_lt hlt
 have h0 : sWant l 4 [60] p = .ok (p + 1) := by unfold sWant; rw [if_pos hlt]
 refine e_plain (w_as rfl rfl rfl rfl rfl .nil) ?_
 try refine e_fl ?_
 refine e_list ?_
 refine l_op (s_build (ds := [_, _, _, _, _, _, _, _, _, _]) [(4, _)] rfl ⟨rfl, (kn rfl), trivial⟩ rfl pl_135 zr_135 (fun w D => .cons (.cell _) (.cons (.cell _) (.cons (.cell _) (.cons (.cell _) (.cons (.cell _) (.cons (.cell _) (.cons (.cell _) (.cons (.cell _) (.cons (.cell _) (.cons (.cell _) (.nil _ _))))))))))) rfl) ?_
 refine e_alloc 5 [.is (.string ⟨#[]⟩), .is (.string ⟨#[]⟩), .is (.string ⟨#[]⟩), .is (.string ⟨#[]⟩), .is (.int .i64 0), .is (.int .i64 0), .is (.int .i64 0), .is (.int .i64 0), .is (.int .i64 0), .is (.int .i64 0)] rfl rfl rfl rfl zr_135 (fun w D M V => ⟨rfl, fun j x v h1 h2 => cfit_is _ h1 h2 rfl⟩) rfl rfl rfl rfl ?_
 refine e_storew rfl rfl rfl (kn rfl) rfl (kn rfl) rfl rfl sz_135 ?_
 refine e_nil ?_
 try refine e_fl ?_
 refine e_list ?_
 refine l_mv ?_
 refine e_calli rfl rfl rfl rfl (by kernel_rfl) (token_g E8 E9 l hl.toTksOk (p + 1) 1 (by omega)) ⟨rfl, trivial⟩ trivial ⟨(kn rfl), ⟨(kn rfl), trivial⟩⟩ (TY.tidy) ?_
 rintro _ _ _ (⟨hk, rfl, rfl, rfl⟩ | ⟨hk, rfl, rfl, rfl⟩)
 ·refine l_mv ?_
  refine l_ex ?_
  refine l_ex ?_
  refine e_alloc 6 [.is (.int .i64 0), .is (.string ⟨#[]⟩), .is (.int .i64 0), .is (.int .i64 0), .is (.int .i64 0)] rfl rfl rfl rfl zr_67 (fun w D M V => ⟨rfl, fun j x v h1 h2 => cfit_is _ h1 h2 rfl⟩) rfl rfl rfl rfl ?_
  refine e_storew rfl rfl rfl (kn rfl) rfl (kn rfl) rfl rfl sz_67 ?_
  refine l_as ?_
  refine e_nil ?_
  try refine e_fl ?_
  refine e_plain (w_mv rfl rfl rfl rfl rfl (w_op rfl rfl rfl (s_err_neq rfl (kn rfl) rfl ifc_30) .nil)) ?_
  try refine e_fl ?_
  refine c_yes ?_
  try refine e_fl ?_
  refine e_plain (w_mv rfl rfl rfl rfl rfl (w_as rfl rfl rfl rfl rfl .nil)) ?_
  try refine e_fl ?_
  exact e_returnx (mS l m (p + 1)) (pmR m) rfl (.tmp (kn rfl) (.nil)) (Imp.refl _) ⟨s_b, s_b, trivial⟩ ⟨rfl, rfl, rfl, rfl, rfl, rfl, trivial⟩ (.inl ⟨p + 1, 9, p + 1, m, by simp only [withFld, sMapped, h0, name_not hk], rfl, rfl, rfl⟩)
 refine l_mv ?_
 refine l_ex ?_
 refine l_ex ?_
 refine e_alloc 6 [.is (.int .i64 0), .is (.string ⟨#[]⟩), .is (.int .i64 0), .is (.int .i64 0), .is (.int .i64 0)] rfl rfl rfl rfl zr_67 (fun w D M V => ⟨rfl, fun j x v h1 h2 => cfit_is _ h1 h2 rfl⟩) rfl rfl rfl rfl ?_
 refine e_storew rfl rfl rfl (kn rfl) rfl (kn rfl) rfl rfl sz_67 ?_
 refine l_as ?_
 refine e_nil ?_
 try refine e_fl ?_
 refine e_plain (w_mv rfl rfl rfl rfl rfl (w_op rfl rfl rfl (s_nil_neq rfl (kn rfl) ifc_30) .nil)) ?_
 try refine e_fl ?_
 refine c_no ?_
 try refine e_fl ?_
 obtain ⟨hlt2, hx⟩ := name_is hk
 refine e_list ?_
 refine l_op (s_faddr_box rfl (kn rfl) off_67_1) ?_
 refine l_op (s_load1_box rfl (kn rfl) rfl rfl one_9) ?_
 refine l_op (s_faddr_box rfl (kn rfl) off_135_2) ?_
 refine e_store1 rfl rfl rfl (kn rfl) rfl (kn rfl) rfl rfl sz_9 rfl ?_
 refine e_nil ?_
 try refine e_fl ?_
 refine e_list ?_
 refine l_mv ?_
 refine l_op (s_buildSlice (ds := [_]) [(0, _)] rfl ⟨rfl, (kn rfl), trivial⟩ rfl sl_45 sz_9 zr_9 (fun w D => .cons (.cell _) (.nil _ _)) rfl rfl rfl rfl rfl) ?_
 refine e_calli rfl rfl rfl rfl (by kernel_rfl) (want1_g E8 E9 l hl 4 [44] rfl (by decide) (p + 1 + 1) (by omega)) ⟨rfl, trivial⟩ trivial ⟨(kn rfl), ⟨(kn rfl), trivial⟩⟩ (PE.tidy) ?_
 rintro _ _ _ (⟨a, b, z, he, rfl, rfl, rfl⟩ | ⟨q, ho, rfl, rfl, rfl⟩)
 ·refine l_as ?_
  refine e_nil ?_
  try refine e_fl ?_
  refine e_plain (w_mv rfl rfl rfl rfl rfl (w_op rfl rfl rfl (s_err_neq rfl (kn rfl) rfl ifc_30) .nil)) ?_
  try refine e_fl ?_
  refine c_yes ?_
  try refine e_fl ?_
  refine e_plain (w_mv rfl rfl rfl rfl rfl (w_as rfl rfl rfl rfl rfl .nil)) ?_
  try refine e_fl ?_
  exact e_returnx (mS l m z) (pmR m) rfl (.tmp (kn rfl) (.nil)) (Imp.refl _) ⟨s_b, s_b, trivial⟩ ⟨rfl, rfl, rfl, rfl, rfl, rfl, trivial⟩ (.inl ⟨a, b, z, m, by simp only [withFld, sMapped, h0, hx, he], rfl, rfl, rfl⟩)
 refine l_as ?_
 refine e_nil ?_
 try refine e_fl ?_
 refine e_plain (w_mv rfl rfl rfl rfl rfl (w_op rfl rfl rfl (s_nil_neq rfl (kn rfl) ifc_30) .nil)) ?_
 try refine e_fl ?_
 refine c_no ?_
 try refine e_fl ?_
 have ho1 := sWant_ok ho
 refine e_list ?_
 refine l_mv ?_
 refine e_calli rfl rfl rfl rfl (by kernel_rfl) (typeName_g E8 E9 l hl (q) (by omega)) ⟨rfl, trivial⟩ trivial ⟨(kn rfl), trivial⟩ (QE.tidy) ?_
 rintro _ _ _ (⟨a, b, z, s, _, he, rfl, rfl, rfl⟩ | ⟨s, r, hs, rfl, rfl, rfl⟩)
 ·refine l_mv ?_
  refine l_ex ?_
  refine l_ex ?_
  refine l_op (s_faddr_box rfl (kn rfl) off_135_1) ?_
  refine e_store1 rfl rfl rfl (kn rfl) rfl (kn rfl) rfl rfl sz_9 rfl ?_
  refine l_as ?_
  refine e_nil ?_
  try refine e_fl ?_
  refine e_plain (w_mv rfl rfl rfl rfl rfl (w_op rfl rfl rfl (s_err_neq rfl (kn rfl) rfl ifc_30) .nil)) ?_
  try refine e_fl ?_
  refine c_yes ?_
  try refine e_fl ?_
  refine e_plain (w_mv rfl rfl rfl rfl rfl (w_as rfl rfl rfl rfl rfl .nil)) ?_
  try refine e_fl ?_
  exact e_returnx (mS l m z) (pmR m) rfl (.tmp (kn rfl) (.nil)) (Imp.refl _) ⟨s_b, s_b, trivial⟩ ⟨rfl, rfl, rfl, rfl, rfl, rfl, trivial⟩ (.inl ⟨a, b, z, m, by simp only [withFld, sMapped, h0, hx, ho, he], rfl, rfl, rfl⟩)
 refine l_mv ?_
 refine l_ex ?_
 refine l_ex ?_
 refine l_op (s_faddr_box rfl (kn rfl) off_135_1) ?_
 refine e_store1 rfl rfl rfl (kn rfl) rfl (kn rfl) rfl rfl sz_9 rfl ?_
 refine l_as ?_
 refine e_nil ?_
 try refine e_fl ?_
 refine e_plain (w_mv rfl rfl rfl rfl rfl (w_op rfl rfl rfl (s_nil_neq rfl (kn rfl) ifc_30) .nil)) ?_
 try refine e_fl ?_
 refine c_no ?_
 try refine e_fl ?_
 have hs1 := sDotted_ok hs
 refine e_list ?_
 refine l_mv ?_
 refine l_op (s_buildSlice (ds := [_]) [(0, _)] rfl ⟨rfl, (kn rfl), trivial⟩ rfl sl_45 sz_9 zr_9 (fun w D => .cons (.cell _) (.nil _ _)) rfl rfl rfl rfl rfl) ?_
 refine e_calli rfl rfl rfl rfl (by kernel_rfl) (want1_g E8 E9 l hl 4 [62] rfl (by decide) r (by omega)) ⟨rfl, trivial⟩ trivial ⟨(kn rfl), ⟨(kn rfl), trivial⟩⟩ (PE.tidy) ?_
 rintro _ _ _ (⟨a, b, z, he, rfl, rfl, rfl⟩ | ⟨u, ho2, rfl, rfl, rfl⟩)
 ·refine l_as ?_
  refine e_nil ?_
  try refine e_fl ?_
  refine e_plain (w_mv rfl rfl rfl rfl rfl (w_op rfl rfl rfl (s_err_neq rfl (kn rfl) rfl ifc_30) .nil)) ?_
  try refine e_fl ?_
  refine c_yes ?_
  try refine e_fl ?_
  refine e_plain (w_mv rfl rfl rfl rfl rfl (w_as rfl rfl rfl rfl rfl .nil)) ?_
  try refine e_fl ?_
  exact e_returnx (mS l m z) (pmR m) rfl (.tmp (kn rfl) (.nil)) (Imp.refl _) ⟨s_b, s_b, trivial⟩ ⟨rfl, rfl, rfl, rfl, rfl, rfl, trivial⟩ (.inl ⟨a, b, z, m, by simp only [withFld, sMapped, h0, hx, ho, hs, he], rfl, rfl, rfl⟩)
 refine l_as ?_
 refine e_nil ?_
 try refine e_fl ?_
 refine e_plain (w_mv rfl rfl rfl rfl rfl (w_op rfl rfl rfl (s_nil_neq rfl (kn rfl) ifc_30) .nil)) ?_
 try refine e_fl ?_
 refine c_no ?_
 try refine e_fl ?_
 have ho3 := sWant_ok ho2
 refine e_list ?_
 refine l_mv ?_
 refine l_mv ?_
 refine l_op (s_loadn_box (ds := [_, _, _, _, _, _, _, _, _, _]) 10 rfl (kn rfl) rfl rfl agg_135 sz_135 rfl) ?_
 refine e_calli rfl rfl rfl rfl (by kernel_rfl) (named_g E8 E9 l hl m hm.1 { fld0 4 0 with mapKey := (tkAt l (p + 1)).1.t, type := s } (u) (by omega)) ⟨rfl, rfl, trivial⟩ ⟨rfl, rfl, rfl, rfl, rfl, rfl, trivial⟩ ⟨(kn rfl), ⟨(kn rfl), ⟨(kn rfl), trivial⟩⟩⟩ (NE.tidy) ?_
 rintro _ _ _ (⟨a, b, z, x, he, rfl, rfl, rfl⟩ | ⟨x, z, hz, rfl, rfl, rfl⟩)
 ·refine l_as ?_
  refine e_nil ?_
  try refine e_fl ?_
  exact e_returnx (mS l x z) (pmR x) rfl (.tmp (kn rfl) (.nil)) (Imp.refl _) ⟨s_b, s_b, trivial⟩ ⟨rfl, rfl, rfl, rfl, rfl, rfl, trivial⟩ (.inl ⟨a, b, z, x, by rw [← he]; simp only [withFld, sMapped, h0, hx, ho, hs, ho2], rfl, rfl, rfl⟩)
 ·refine l_as ?_
  refine e_nil ?_
  try refine e_fl ?_
  exact e_returnx (mS l x z) (pmR x) rfl (.tmp (kn rfl) (.nil)) (Imp.refl _) ⟨s_b, s_b, trivial⟩ ⟨rfl, rfl, rfl, rfl, rfl, rfl, trivial⟩ (.inr ⟨x, z, by rw [← hz]; simp only [withFld, sMapped, h0, hx, ho, hs, ho2], rfl, rfl, rfl⟩)
def withRes (m : Msg) (r : Ans8 ((List (Int × Int) × List (List UInt8)) × Nat)) : Ans8 (Msg × Nat) :=
 match r with
 | .error e => .error e
 | .ok (g, q) => .ok (m.addReserved g, q)
def sResN (l : List Tk) (p : Nat) : Ans8 ((List (Int × Int) × List (List UInt8)) × Nat) :=
 match sText l p with
 | .error e => .error e
 | .ok (t, q) => .ok (([], [t]), q)
def sResR (l : List Tk) (p : Nat) : Ans8 ((List (Int × Int) × List (List UInt8)) × Nat) :=
 match sRange l p with
 | .error e => .error e
 | .ok (x, q) => .ok (([x], []), q)
theorem sRange_eq (l : List Tk) (p : Nat) : sRange l p = match sNumber l p with
 | .error e => .error e
 | .ok (n, q) => if tkIs l q 1 [116, 111] then (match sUpper l (q + 1) with | .error e => .error e | .ok (m, r) => .ok ((n, m), r)) else .ok ((n, n), q) := by
 unfold sRange sUpper
 cases sNumber l p with
 | error e => rfl
 | ok x =>
  obtain ⟨n, q⟩ := x
  dsimp only
  split
  ·split <;> rfl
  ·rfl
set_option maxRecDepth 100000 in
theorem reservedName_g (E8 E9 : Er) (l : List Tk) (hl : PTk l) (m : Msg) (hm : Small m 100000000000) (p : Nat) (hp : p ≤ 100000) : EG Tryd.prog (gE E8 E9) 88 [.box 1 0, .box 3 0] (mS l m p) (pmR m) (NE l E8 E9 (withRes m (sResN l p))) := by
 obtain ⟨nm, fs, os, ms, es, rs, ns, ln, cl⟩ := m
 have hm1 : (Msg.mk nm fs os ms es rs ns ln cl).names.length ≤ 100000000000 := hm.2.2.2.2.2
 refine eg_enter 26 Tryd.func88 rfl rfl rfl fun w D bor mb => ?_
 try refine e_fl ?_
 have hll := hl.len
 refine e_plain (w_as rfl rfl rfl rfl rfl .nil) ?_
 try refine e_fl ?_
 refine e_list ?_
 refine l_mv ?_
 refine e_calli rfl rfl rfl rfl (by kernel_rfl) (token_g E8 E9 l hl.toTksOk (p) 3 (by omega)) ⟨rfl, trivial⟩ trivial ⟨(kn rfl), ⟨(kn rfl), trivial⟩⟩ (TY.tidy) ?_
 rintro _ _ _ (⟨hk, rfl, rfl, rfl⟩ | ⟨hk, rfl, rfl, rfl⟩)
 ·refine l_mv ?_
  refine l_ex ?_
  refine l_ex ?_
  refine e_alloc 5 [.is (.int .i64 0), .is (.string ⟨#[]⟩), .is (.int .i64 0), .is (.int .i64 0), .is (.int .i64 0)] rfl rfl rfl rfl zr_67 (fun w D M V => ⟨rfl, fun j x v h1 h2 => cfit_is _ h1 h2 rfl⟩) rfl rfl rfl rfl ?_
  refine e_storew rfl rfl rfl (kn rfl) rfl (kn rfl) rfl rfl sz_67 ?_
  refine l_as ?_
  refine e_nil ?_
  try refine e_fl ?_
  refine e_plain (w_mv rfl rfl rfl rfl rfl (w_op rfl rfl rfl (s_err_neq rfl (kn rfl) rfl ifc_30) .nil)) ?_
  try refine e_fl ?_
  refine c_yes ?_
  try refine e_fl ?_
  refine e_plain (w_mv rfl rfl rfl rfl rfl (w_as rfl rfl rfl rfl rfl .nil)) ?_
  try refine e_fl ?_
  exact e_returnx (mS l (.mk nm fs os ms es rs ns ln cl) p) (pmR (.mk nm fs os ms es rs ns ln cl)) rfl (.tmp (kn rfl) (.nil)) (Imp.refl _) ⟨s_b, s_b, trivial⟩ ⟨rfl, rfl, rfl, rfl, rfl, rfl, trivial⟩ (.inl ⟨p, 9, p, _, by simp only [withRes, sResN, text_not hk], rfl, rfl, rfl⟩)
 refine l_mv ?_
 refine l_ex ?_
 refine l_ex ?_
 refine e_alloc 5 [.is (.int .i64 0), .is (.string ⟨#[]⟩), .is (.int .i64 0), .is (.int .i64 0), .is (.int .i64 0)] rfl rfl rfl rfl zr_67 (fun w D M V => ⟨rfl, fun j x v h1 h2 => cfit_is _ h1 h2 rfl⟩) rfl rfl rfl rfl ?_
 refine e_storew rfl rfl rfl (kn rfl) rfl (kn rfl) rfl rfl sz_67 ?_
 refine l_as ?_
 refine e_nil ?_
 try refine e_fl ?_
 refine e_plain (w_mv rfl rfl rfl rfl rfl (w_op rfl rfl rfl (s_nil_neq rfl (kn rfl) ifc_30) .nil)) ?_
 try refine e_fl ?_
 refine c_no ?_
 try refine e_fl ?_
 obtain ⟨hlt2, hx⟩ := text_is hk
 refine e_draw_float 8 mixed (by kernel_rfl) rfl rfl rfl rfl (kn rfl) (fun _ _ _ _ h => h) (w_mv rfl rfl rfl rfl rfl (w_op rfl rfl rfl (s_nil_box rfl (kn rfl)) (w_op rfl rfl rfl (s_faddr_box rfl (kn rfl) off_48_6) (w_op rfl rfl rfl (s_load1_box rfl (kn rfl) rfl rfl one_45) (w_op rfl rfl rfl (s_faddr_box rfl (kn rfl) off_67_1) (w_op rfl rfl rfl (s_load1_box rfl (kn rfl) rfl rfl one_9) (w_op rfl rfl rfl (s_buildSlice (ds := [_]) [(0, _)] rfl ⟨rfl, (kn rfl), trivial⟩ rfl sl_45 sz_9 zr_9 (fun w D => .cons (.cell _) (.nil _ _)) rfl rfl rfl rfl rfl) .nil))))))) ?_
 refine e_append rfl rfl rfl rfl (kn rfl) rfl (kn rfl) sl_45 ap_45 rfl rfl (by first | omega | (dsimp only; omega) | omega) (by first | omega | (dsimp only; omega) | omega) ?_
 refine l_op (s_nil_box rfl (kn rfl)) ?_
 refine l_op (s_faddr_box rfl (kn rfl) off_48_6) ?_
 refine e_store_own rfl rfl rfl (kn rfl) rfl (kn rfl) rfl rfl sz_45 rfl ?_
 refine e_nil ?_
 try refine e_fl ?_
 refine e_plain (w_as rfl rfl rfl rfl rfl .nil) ?_
 try refine e_fl ?_
 exact e_returnx (mS l ((Msg.mk nm fs os ms es rs ns ln cl).addReserved ([], [(tkAt l p).1.t])) (p + 1)) (pmR ((Msg.mk nm fs os ms es rs ns ln cl).addReserved ([], [(tkAt l p).1.t]))) rfl (.tmp (kn rfl) (.nil)) (Imp.refl _) ⟨s_b, s_b, trivial⟩ ⟨rfl, rfl, rfl, rfl, rowEq rfl (by simp [Msg.addReserved, Msg.reserved]) (by simp [Msg.addReserved, Msg.reserved]), rowEq rfl (by simp [Msg.addReserved, Msg.names]) (by simp [Msg.addReserved, Msg.names, List.flatMap_append, textDats]), trivial⟩ (.inr ⟨(Msg.mk nm fs os ms es rs ns ln cl).addReserved ([], [(tkAt l p).1.t]), p + 1, by simp only [withRes, sResN, hx], rfl, rfl, rfl⟩)
set_option maxRecDepth 100000 in
set_option maxHeartbeats 1000000 in
theorem reservedRange_g (E8 E9 : Er) (l : List Tk) (hl : PTk l) (m : Msg) (hm : Small m 100000000000) (p : Nat) (hp : p ≤ 100000) : EG Tryd.prog (gE E8 E9) 90 [.box 1 0, .box 3 0] (mS l m p) (pmR m) (NE l E8 E9 (withRes m (sResR l p))) := by
 obtain ⟨nm, fs, os, ms, es, rs, ns, ln, cl⟩ := m
 have hm1 : (Msg.mk nm fs os ms es rs ns ln cl).reserved.length ≤ 100000000000 := hm.2.2.2.2.1
 refine eg_enter 42 Tryd.func90 rfl rfl rfl fun w D bor mb => ?_
 try refine e_fl ?_
 have hll := hl.len
 refine e_plain (w_as rfl rfl rfl rfl rfl .nil) ?_
 try refine e_fl ?_
 refine e_list ?_
 refine l_mv ?_
 refine e_calli rfl rfl rfl rfl (by kernel_rfl) (token_g E8 E9 l hl.toTksOk (p) 2 (by omega)) ⟨rfl, trivial⟩ trivial ⟨(kn rfl), ⟨(kn rfl), trivial⟩⟩ (TY.tidy) ?_
 rintro _ _ _ (⟨hk, rfl, rfl, rfl⟩ | ⟨hk, rfl, rfl, rfl⟩)
 ·refine l_mv ?_
  refine l_ex ?_
  refine l_ex ?_
  refine e_alloc 5 [.is (.int .i64 0), .is (.string ⟨#[]⟩), .is (.int .i64 0), .is (.int .i64 0), .is (.int .i64 0)] rfl rfl rfl rfl zr_67 (fun w D M V => ⟨rfl, fun j x v h1 h2 => cfit_is _ h1 h2 rfl⟩) rfl rfl rfl rfl ?_
  refine e_storew rfl rfl rfl (kn rfl) rfl (kn rfl) rfl rfl sz_67 ?_
  refine l_as ?_
  refine e_nil ?_
  try refine e_fl ?_
  refine e_plain (w_mv rfl rfl rfl rfl rfl (w_op rfl rfl rfl (s_err_neq rfl (kn rfl) rfl ifc_30) .nil)) ?_
  try refine e_fl ?_
  refine c_yes ?_
  try refine e_fl ?_
  refine e_plain (w_mv rfl rfl rfl rfl rfl (w_as rfl rfl rfl rfl rfl .nil)) ?_
  try refine e_fl ?_
  exact e_returnx (mS l (.mk nm fs os ms es rs ns ln cl) p) (pmR (.mk nm fs os ms es rs ns ln cl)) rfl (.tmp (kn rfl) (.nil)) (Imp.refl _) ⟨s_b, s_b, trivial⟩ ⟨rfl, rfl, rfl, rfl, rfl, rfl, trivial⟩ (.inl ⟨p, 9, p, _, by simp only [withRes, sResR, sRange_eq, number_not hk], rfl, rfl, rfl⟩)
 refine l_mv ?_
 refine l_ex ?_
 refine l_ex ?_
 refine e_alloc 5 [.is (.int .i64 0), .is (.string ⟨#[]⟩), .is (.int .i64 0), .is (.int .i64 0), .is (.int .i64 0)] rfl rfl rfl rfl zr_67 (fun w D M V => ⟨rfl, fun j x v h1 h2 => cfit_is _ h1 h2 rfl⟩) rfl rfl rfl rfl ?_
 refine e_storew rfl rfl rfl (kn rfl) rfl (kn rfl) rfl rfl sz_67 ?_
 refine l_as ?_
 refine e_nil ?_
 try refine e_fl ?_
 refine e_plain (w_mv rfl rfl rfl rfl rfl (w_op rfl rfl rfl (s_nil_neq rfl (kn rfl) ifc_30) .nil)) ?_
 try refine e_fl ?_
 refine c_no ?_
 try refine e_fl ?_
 obtain ⟨hlt2, hx⟩ := number_is hk
 refine e_plain (w_op rfl rfl rfl (s_faddr_box rfl (kn rfl) off_67_2) (w_op rfl rfl rfl (s_load1_box rfl (kn rfl) rfl rfl one_3) (w_as rfl rfl rfl rfl rfl .nil))) ?_
 try refine e_fl ?_
 refine e_list ?_
 refine l_mv ?_
 refine l_op (s_buildSlice (ds := [_]) [(0, _)] rfl ⟨rfl, (kn rfl), trivial⟩ rfl sl_45 sz_9 zr_9 (fun w D => .cons (.cell _) (.nil _ _)) rfl rfl rfl rfl rfl) ?_
 refine e_calli rfl rfl rfl rfl (by kernel_rfl) (take1 _ l hl [116, 111] 1 rfl (by decide) (p + 1) (by omega)) ⟨rfl, trivial⟩ trivial ⟨(kn rfl), ⟨(kn rfl), trivial⟩⟩ (fun _ _ _ h => PY.tidy h.1 h.2.1 h.2.2) ?_
 rintro _ _ _ ⟨rfl, rfl, rfl⟩
 refine e_nil ?_
 try refine e_fl ?_
 refine e_cond rfl (fun h => ?_) (fun h => ?_)
 ·have hlt3 := tkIs_lt h
  rw [h]
  try refine e_fl ?_
  refine e_list ?_
  refine l_mv ?_
  refine e_calli rfl rfl rfl rfl (by kernel_rfl) (upper_g E8 E9 l hl (p + 1 + 1) (by omega)) ⟨rfl, trivial⟩ trivial ⟨(kn rfl), trivial⟩ (QE.tidy) ?_
  rintro _ _ _ (⟨a, b, z, s, _, he, rfl, rfl, rfl⟩ | ⟨s, z, hs, rfl, rfl, rfl⟩)
  ·refine l_mv ?_
   refine l_ex ?_
   refine l_ex ?_
   refine l_as ?_
   refine l_as ?_
   refine e_nil ?_
   try refine e_fl ?_
   refine e_plain (w_mv rfl rfl rfl rfl rfl (w_op rfl rfl rfl (s_err_neq rfl (kn rfl) rfl ifc_30) .nil)) ?_
   try refine e_fl ?_
   refine c_yes ?_
   try refine e_fl ?_
   refine e_plain (w_mv rfl rfl rfl rfl rfl (w_as rfl rfl rfl rfl rfl .nil)) ?_
   try refine e_fl ?_
   exact e_returnx (mS l (.mk nm fs os ms es rs ns ln cl) z) (pmR (.mk nm fs os ms es rs ns ln cl)) rfl (.tmp (kn rfl) (.nil)) (Imp.refl _) ⟨s_b, s_b, trivial⟩ ⟨rfl, rfl, rfl, rfl, rfl, rfl, trivial⟩ (.inl ⟨a, b, z, _, by simp only [withRes, sResR, sRange_eq, hx, h, if_true, he], rfl, rfl, rfl⟩)
  have hw : sRange l p = .ok ((((tkAt l p).1.n : Int), s), z) := by simp only [sRange_eq, hx, h, if_true, hs]
  refine l_mv ?_
  refine l_ex ?_
  refine l_ex ?_
  refine l_as ?_
  refine l_as ?_
  refine e_nil ?_
  try refine e_fl ?_
  refine e_plain (w_mv rfl rfl rfl rfl rfl (w_op rfl rfl rfl (s_nil_neq rfl (kn rfl) ifc_30) .nil)) ?_
  try refine e_fl ?_
  refine c_no ?_
  try refine e_fl ?_
  refine e_draw_float 10 mixed (by kernel_rfl) rfl rfl rfl rfl (kn rfl) (fun _ _ _ _ h => h) (w_mv rfl rfl rfl rfl rfl (w_op rfl rfl rfl (s_nil_box rfl (kn rfl)) (w_op rfl rfl rfl (s_faddr_box rfl (kn rfl) off_48_5) (w_op rfl rfl rfl (s_load1_box rfl (kn rfl) rfl rfl one_46) (w_op rfl rfl rfl (s_faddr_box rfl (kn rfl) off_67_2) (w_op rfl rfl rfl (s_load1_box rfl (kn rfl) rfl rfl one_3) (w_mv rfl rfl rfl rfl rfl (w_op rfl rfl rfl (s_build (ds := [_, _]) [(0, _), (1, _)] rfl ⟨rfl, (kn rfl), ⟨rfl, (kn rfl), trivial⟩⟩ rfl pl_144 zr_144 (fun w D => .cons (.cell _) (.cons (.cell _) (.nil _ _))) rfl) (w_op rfl rfl rfl (s_buildSlice (ds := [_, _]) [(0, _)] rfl ⟨rfl, (kn rfl), trivial⟩ rfl sl_46 sz_144 zr_144 (fun w D => .cons (.cell _) (.cons (.cell _) (.nil _ _))) rfl rfl rfl rfl rfl) .nil))))))))) ?_
  refine e_append rfl rfl rfl rfl (kn rfl) rfl (kn rfl) sl_46 ap_46 rfl rfl (by first | omega | (dsimp only; omega) | omega) (by first | omega | (dsimp only; omega) | omega) ?_
  refine l_op (s_nil_box rfl (kn rfl)) ?_
  refine l_op (s_faddr_box rfl (kn rfl) off_48_5) ?_
  refine e_store_own rfl rfl rfl (kn rfl) rfl (kn rfl) rfl rfl sz_46 rfl ?_
  refine e_nil ?_
  try refine e_fl ?_
  refine e_plain (w_as rfl rfl rfl rfl rfl .nil) ?_
  try refine e_fl ?_
  exact e_returnx (mS l ((Msg.mk nm fs os ms es rs ns ln cl).addReserved ([(((tkAt l p).1.n : Int), s)], [])) (z)) (pmR ((Msg.mk nm fs os ms es rs ns ln cl).addReserved ([(((tkAt l p).1.n : Int), s)], []))) rfl (.tmp (kn rfl) (.nil)) (Imp.refl _) ⟨s_b, s_b, trivial⟩ ⟨rfl, rfl, rfl, rfl, rowEq rfl (by simp [Msg.addReserved, Msg.reserved]) (by simp [Msg.addReserved, Msg.reserved, List.flatMap_append, rangeDats]), rowEq rfl (by simp [Msg.addReserved, Msg.names]) (by simp [Msg.addReserved, Msg.names]), trivial⟩ (.inr ⟨(Msg.mk nm fs os ms es rs ns ln cl).addReserved ([(((tkAt l p).1.n : Int), s)], []), z, by simp only [withRes, sResR, hw], rfl, rfl, rfl⟩)
 ·have hw : sRange l p = .ok ((((tkAt l p).1.n : Int), ((tkAt l p).1.n : Int)), p + 1) := by simp only [sRange_eq, hx, h]; rfl
  rw [h]
  try refine e_fl ?_
  refine e_draw_float 10 mixed (by kernel_rfl) rfl rfl rfl rfl (kn rfl) (fun _ _ _ _ h => h) (w_mv rfl rfl rfl rfl rfl (w_op rfl rfl rfl (s_nil_box rfl (kn rfl)) (w_op rfl rfl rfl (s_faddr_box rfl (kn rfl) off_48_5) (w_op rfl rfl rfl (s_load1_box rfl (kn rfl) rfl rfl one_46) (w_op rfl rfl rfl (s_faddr_box rfl (kn rfl) off_67_2) (w_op rfl rfl rfl (s_load1_box rfl (kn rfl) rfl rfl one_3) (w_mv rfl rfl rfl rfl rfl (w_op rfl rfl rfl (s_build (ds := [_, _]) [(0, _), (1, _)] rfl ⟨rfl, (kn rfl), ⟨rfl, (kn rfl), trivial⟩⟩ rfl pl_144 zr_144 (fun w D => .cons (.cell _) (.cons (.cell _) (.nil _ _))) rfl) (w_op rfl rfl rfl (s_buildSlice (ds := [_, _]) [(0, _)] rfl ⟨rfl, (kn rfl), trivial⟩ rfl sl_46 sz_144 zr_144 (fun w D => .cons (.cell _) (.cons (.cell _) (.nil _ _))) rfl rfl rfl rfl rfl) .nil))))))))) ?_
  refine e_append rfl rfl rfl rfl (kn rfl) rfl (kn rfl) sl_46 ap_46 rfl rfl (by first | omega | (dsimp only; omega) | omega) (by first | omega | (dsimp only; omega) | omega) ?_
  refine l_op (s_nil_box rfl (kn rfl)) ?_
  refine l_op (s_faddr_box rfl (kn rfl) off_48_5) ?_
  refine e_store_own rfl rfl rfl (kn rfl) rfl (kn rfl) rfl rfl sz_46 rfl ?_
  refine e_nil ?_
  try refine e_fl ?_
  refine e_plain (w_as rfl rfl rfl rfl rfl .nil) ?_
  try refine e_fl ?_
  exact e_returnx (mS l ((Msg.mk nm fs os ms es rs ns ln cl).addReserved ([(((tkAt l p).1.n : Int), ((tkAt l p).1.n : Int))], [])) (p + 1)) (pmR ((Msg.mk nm fs os ms es rs ns ln cl).addReserved ([(((tkAt l p).1.n : Int), ((tkAt l p).1.n : Int))], []))) rfl (.tmp (kn rfl) (.nil)) (Imp.refl _) ⟨s_b, s_b, trivial⟩ ⟨rfl, rfl, rfl, rfl, rowEq rfl (by simp [Msg.addReserved, Msg.reserved]) (by simp [Msg.addReserved, Msg.reserved, List.flatMap_append, rangeDats]), rowEq rfl (by simp [Msg.addReserved, Msg.names]) (by simp [Msg.addReserved, Msg.names]), trivial⟩ (.inr ⟨(Msg.mk nm fs os ms es rs ns ln cl).addReserved ([(((tkAt l p).1.n : Int), ((tkAt l p).1.n : Int))], []), p + 1, by simp only [withRes, sResR, hw], rfl, rfl, rfl⟩)
end Go.Proofs.YtekeanikgcpijaaDoor
