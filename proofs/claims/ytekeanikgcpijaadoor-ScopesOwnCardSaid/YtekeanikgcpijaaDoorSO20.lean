/- Part 20 of what the last text of this claim is proved by: walks over the program, and the math behind them. Conditions: as each theorem says. -/
import Derived.Test.YtekeanikgcpijaaDoorSO19
import Derived.Test.YtekeanikgcpijaaDoorProg
namespace Go.Proofs.YtekeanikgcpijaaDoor
open Go.RowKit
theorem tkIs_one {l : List Tk} {p k : Nat} {s t : List UInt8} (h : tkIs l p k s = true) (hs : s ≠ []) (ht : t ≠ []) (hne : s ≠ t) : tkIs l p k t = false := by
 unfold tkIs at h ⊢
 cases hx : l[p]? with
 | none => rfl
 | some x =>
  rw [hx] at h
  simp only [Bool.and_eq_true, decide_eq_true_eq, Bool.or_eq_true] at h
  obtain ⟨h1, h2⟩ := h
  have h3 : x.1.t = s := h2.resolve_left hs
  have h4 : ¬ x.1.t = t := fun e => hne (h3.symm.trans e)
  simp [ht, h4]
theorem tkIs_kind {l : List Tk} {p k : Nat} {s : List UInt8} (h : tkIs l p k s = true) : (tkAt l p).1.k = k := by
 have hlt := tkIs_lt h
 unfold tkIs at h
 rw [tkAt_lt hlt] at h
 simp only [Bool.and_eq_true, decide_eq_true_eq] at h
 exact h.1
theorem sVals_blk (l : List Tk) (x : Tk) : ∀ (d n m : Nat) (vs : List Val) (p : Nat), l.length + 1 - p ≤ d → p ≤ l.length → l.length + 1 ≤ n + p → l.length + 1 ≤ m + p →
  (match sVals l n vs p with | .error e => (.error e : Ans8 (Enm × Nat)) | .ok (us, r) => .ok (⟨x.1.t, us, x.2.1, x.2.2⟩, r)) = sBlk l 1 (withVal l) m ⟨x.1.t, vs, x.2.1, x.2.2⟩ vs.length p
 | 0, _, _, _, p, hd, hp, _, _ => by omega
 | d + 1, 0, _, _, p, hd, hp, hn, _ => by omega
 | d + 1, _, 0, _, p, hd, hp, _, hm => by omega
 | d + 1, n + 1, m + 1, vs, p, hd, hp, hn, hm => by
  by_cases hs : tkIs l p 4 [59] = true
  ·have hlt := tkIs_lt hs
   have hc := tkIs_one (t := [125]) hs (by simp) (by simp) (by decide)
   have ih := sVals_blk l x d (n + 1) m vs (p + 1) (by omega) (by omega) (by omega) (by omega)
   rw [sBlk, hc, hs]
   simp only [Bool.not_false, Bool.or_true, Bool.not_true, Bool.false_eq_true, if_false, if_true]
   rw [← ih]
   rw [sVals, sVals, semis_more hs]
  ·have hs' : tkIs l p 4 [59] = false := by simpa using hs
   rw [sVals, sBlk, semis_done hs', hs']
   by_cases hc : tkIs l p 4 [125] = true
   ·rw [hc]
    cases vs with
    | nil =>
     have h1 : sName l p = .error (p, 9) := name_not (by rw [tkIs_kind hc]; decide)
     simp [withVal, sValue, h1, form8]
    | cons v vs => simp
   ·have hc' : tkIs l p 4 [125] = false := by simpa using hc
    rw [hc']
    simp only [Bool.not_false, Bool.or_true, Bool.not_true, Bool.false_eq_true, if_false]
    cases hv : sValue l p with
    | error e => simp only [withVal, hv]
    | ok y =>
     obtain ⟨v, q⟩ := y
     have hq := sValue_ok hv
     simp only [withVal, hv]
     rcases Nat.eq_zero_or_pos n with h0 | h0
     ·omega
     ·have ih := sVals_blk l x d n m (vs ++ [v]) q (by omega) (by omega) (by omega) (by omega)
      rw [List.length_append] at ih
      exact ih
theorem sEnum_blk (l : List Tk) (p : Nat) : sEnum l p = match sName l p with
 | .error e => .error e
 | .ok (x, q) => sBlock l 1 (withVal l) ⟨x.1.t, [], x.2.1, x.2.2⟩ q := by
 unfold sEnum sHead sBlock
 cases hx : sName l p with
 | error e => rfl
 | ok x =>
  obtain ⟨x, q⟩ := x
  dsimp only
  cases hw : sWant l 4 [123] q with
  | error e => rfl
  | ok r =>
   dsimp only
   have hr := sWant_ok hw
   exact sVals_blk l x _ (l.length + 1) (l.length + 1) [] r (Nat.le_refl _) (by omega) (by omega) (by omega)
def withEnm (m : Msg) (r : Ans8 (Enm × Nat)) : Ans8 (Msg × Nat) :=
 match r with
 | .error e => .error e
 | .ok (g, q) => .ok (m.addEnum g, q)
abbrev flX (f : Fil) : Bx := ⟨28, [.is (.string (str f.package)), .own 400, .own 401]⟩
abbrev flR (f : Fil) : RL := [(400, ⟨48, 9, f.msgs.length, f.msgs.flatMap Msg.dats, false⟩), (401, ⟨77, 4, f.enums.length, f.enums.flatMap Enm.dats, false⟩)]
abbrev flB (l : List Tk) (f : Fil) (q : Nat) : BL := [(1, pX l q), (7, flX f)]
abbrev LE (l : List Tk) (E8 E9 : Er) (r : Ans8 (Fil × Nat)) (y : IV) (B1 : BL) (R1 : RL) : Prop := ME l E8 E9 (flB l) flR r y B1 R1
theorem LE.tidy {l : List Tk} {E8 E9 : Er} {r : Ans8 (Fil × Nat)} {m : Fil} {q : Nat} (y : IV) (B1 : BL) (R1 : RL) (h : LE l E8 E9 r y B1 R1) : Tidy (flB l m q) (flR m) y B1 R1 := by
 rcases h with ⟨a, b, z, x, _, rfl, rfl, rfl⟩ | ⟨x, z, _, rfl, rfl, rfl⟩ <;> exact ⟨rfl, rfl, rfl, rfl⟩
def withEnmF (f : Fil) (r : Ans8 (Enm × Nat)) : Ans8 (Fil × Nat) :=
 match r with
 | .error e => .error e
 | .ok (g, q) => .ok ({ f with enums := f.enums ++ [g] }, q)
set_option maxRecDepth 100000 in
set_option maxHeartbeats 1000000 in
theorem enumA_g (E8 E9 : Er) (l : List Tk) (hl : PTk l) (m : Msg) (hm : Small m 100000000000) (p : Nat) (hp : p ≤ 100000) : EG Tryd.prog (gE E8 E9) 56 [.box 1 0, .box 3 4] (mS l m p) (pmR m) (NE l E8 E9 (withEnm m (sEnum l p))) := by
 obtain ⟨nm, fs, os, ms, es, rs, ns, ln, cl⟩ := m
 have hm1 : (Msg.mk nm fs os ms es rs ns ln cl).enums.length ≤ 100000000000 := hm.2.2.2.1
 refine eg_enter 37 Tryd.func56 rfl rfl rfl fun w D bor mb => ?_
 try refine e_fl ?_
 have hll := hl.len
 refine e_list ?_
 refine e_boxi 4 rfl rfl rfl rfl (kn rfl) rfl rfl rfl rfl rfl ?_
 refine l_as ?_
 refine e_nil ?_
 try refine e_fl ?_
 refine e_list ?_
 refine l_op (s_load1_box rfl (kn rfl) rfl rfl one_86) ?_
 refine e_calli rfl rfl rfl rfl (by kernel_rfl) (token_g E8 E9 l hl.toTksOk (p) 1 (by omega)) ⟨rfl, trivial⟩ trivial ⟨(kn rfl), ⟨(kn rfl), trivial⟩⟩ (TY.tidy) ?_
 rintro _ _ _ (⟨hk, rfl, rfl, rfl⟩ | ⟨hk, rfl, rfl, rfl⟩)
 ·refine l_mv ?_
  refine l_ex ?_
  refine l_ex ?_
  refine e_alloc 5 [.is (.int .i64 0), .is (.string ⟨#[]⟩), .is (.int .i64 0), .is (.int .i64 0), .is (.int .i64 0)] rfl rfl rfl rfl zr_67 (fun w D M V => ⟨rfl, fun j x v h1 h2 => cfit_is _ h1 h2 rfl⟩) rfl rfl rfl rfl ?_
  refine e_storew rfl rfl rfl (kn rfl) rfl (kn rfl) rfl rfl sz_67 ?_
  refine l_as ?_
  refine e_nil ?_
  try refine e_fl ?_
  refine e_plain (w_mv rfl rfl rfl rfl rfl (w_op rfl rfl rfl (s_err_neq rfl (kn rfl) rfl ifc_30) .nil)) ?_
  try refine e_fl ?_
  refine c_yes ?_
  try refine e_fl ?_
  refine e_plain (w_mv rfl rfl rfl rfl rfl (w_as rfl rfl rfl rfl rfl .nil)) ?_
  try refine e_fl ?_
  exact e_returnx (mS l (Msg.mk nm fs os ms es rs ns ln cl) p) (pmR (Msg.mk nm fs os ms es rs ns ln cl)) rfl (.tmp (kn rfl) (.nil)) (Imp.refl _) ⟨s_b, s_b, trivial⟩ ⟨rfl, rfl, rfl, rfl, rfl, rfl, trivial⟩ (.inl ⟨p, 9, p, _, by simp only [withEnm, sEnum_blk, name_not hk], rfl, rfl, rfl⟩)
 refine l_mv ?_
 refine l_ex ?_
 refine l_ex ?_
 refine e_alloc 5 [.is (.int .i64 0), .is (.string ⟨#[]⟩), .is (.int .i64 0), .is (.int .i64 0), .is (.int .i64 0)] rfl rfl rfl rfl zr_67 (fun w D M V => ⟨rfl, fun j x v h1 h2 => cfit_is _ h1 h2 rfl⟩) rfl rfl rfl rfl ?_
 refine e_storew rfl rfl rfl (kn rfl) rfl (kn rfl) rfl rfl sz_67 ?_
 refine l_as ?_
 refine e_nil ?_
 try refine e_fl ?_
 refine e_plain (w_mv rfl rfl rfl rfl rfl (w_op rfl rfl rfl (s_nil_neq rfl (kn rfl) ifc_30) .nil)) ?_
 try refine e_fl ?_
 refine c_no ?_
 try refine e_fl ?_
 obtain ⟨hlt0, hx⟩ := name_is hk
 refine e_list ?_
 refine l_op (s_faddr_box rfl (kn rfl) off_67_1) ?_
 refine l_op (s_load1_box rfl (kn rfl) rfl rfl one_9) ?_
 refine l_op (s_faddr_box rfl (kn rfl) off_67_3) ?_
 refine l_op (s_load1_box rfl (kn rfl) rfl rfl one_3) ?_
 refine l_op (s_faddr_box rfl (kn rfl) off_67_4) ?_
 refine l_op (s_load1_box rfl (kn rfl) rfl rfl one_3) ?_
 refine l_op (s_build (ds := [_, _, _, _]) [(0, _), (2, _), (3, _)] rfl ⟨rfl, (kn rfl), ⟨rfl, (kn rfl), ⟨rfl, (kn rfl), trivial⟩⟩⟩ rfl pl_77 zr_77 (fun w D => .cons (.cell _) (.cons (.cell _) (.cons (.cell _) (.cons (.cell _) (.nil _ _))))) rfl) ?_
 refine e_alloc 6 [.is (.string ⟨#[]⟩), .is (.slice none 0 0), .is (.int .i64 0), .is (.int .i64 0)] rfl rfl rfl rfl zr_77 (fun w D M V => ⟨rfl, fun j x v h1 h2 => cfit_is _ h1 h2 rfl⟩) rfl rfl rfl rfl ?_
 refine e_storew rfl rfl rfl (kn rfl) rfl (kn rfl) rfl rfl sz_77 ?_
 refine e_nil ?_
 try refine e_fl ?_
 refine e_row_cell 6 1 300 137 4 rfl rfl rfl rfl rfl ?_
 refine e_list ?_
 refine l_op (s_load1_box rfl (kn rfl) rfl rfl one_86) ?_
 refine l_op (s_func (fs := []) (cs := [.box 4 0, .box 6 0]) rfl trivial ⟨(kn rfl), (kn rfl), trivial⟩) ?_
 refine e_calli rfl rfl rfl rfl (by kernel_rfl) (blkE E8 E9 l hl ⟨(tkAt l p).1.t, [], (tkAt l p).2.1, (tkAt l p).2.2⟩ (p + 1) (by omega) (fun q _ => Nat.zero_le q)) ⟨rfl, rfl, rfl, trivial⟩ ⟨rfl, trivial⟩ ⟨(kn rfl), ⟨(kn rfl), ⟨(kn rfl), trivial⟩⟩⟩ (VE4.tidy) ?_
 rintro _ _ _ (⟨a, b, z, g, he, rfl, rfl, rfl⟩ | ⟨g, z, ho, rfl, rfl, rfl⟩)
 ·refine l_as ?_
  refine e_nil ?_
  try refine e_fl ?_
  refine e_plain (w_mv rfl rfl rfl rfl rfl (w_op rfl rfl rfl (s_err_neq rfl (kn rfl) rfl ifc_30) .nil)) ?_
  try refine e_fl ?_
  refine c_yes ?_
  try refine e_fl ?_
  refine e_plain (w_mv rfl rfl rfl rfl rfl (w_as rfl rfl rfl rfl rfl .nil)) ?_
  try refine e_fl ?_
  exact e_returnx (mS l (Msg.mk nm fs os ms es rs ns ln cl) z) (pmR (Msg.mk nm fs os ms es rs ns ln cl)) rfl (.tmp (kn rfl) (.nil)) (Imp.refl _) ⟨s_b, s_b, trivial⟩ ⟨rfl, rfl, rfl, rfl, rfl, rfl, trivial⟩ (.inl ⟨a, b, z, _, by simp only [withEnm, sEnum_blk, hx, he], rfl, rfl, rfl⟩)
 refine l_as ?_
 refine e_nil ?_
 try refine e_fl ?_
 refine e_plain (w_mv rfl rfl rfl rfl rfl (w_op rfl rfl rfl (s_nil_neq rfl (kn rfl) ifc_30) .nil)) ?_
 try refine e_fl ?_
 refine c_no ?_
 try refine e_fl ?_
 refine e_freeze_cell 6 1 300 rfl rfl rfl rfl rfl ?_
 refine e_draw_float 6 mixed (by kernel_rfl) rfl rfl rfl rfl (kn rfl) (fun _ _ _ _ h => h) (w_mv rfl rfl rfl rfl rfl (w_op rfl rfl rfl (s_nil_box rfl (kn rfl)) (w_op rfl rfl rfl (s_load1_box rfl (kn rfl) rfl rfl one_26) (w_op rfl rfl rfl (s_loadn_box (ds := [_, _, _, _]) 4 rfl (kn rfl) rfl rfl agg_77 sz_77 rfl) (w_op rfl rfl rfl (s_buildSlice (ds := [_, _, _, _]) [(0, _)] rfl ⟨rfl, (kn rfl), trivial⟩ rfl sl_26 sz_77 zr_77 (fun w D => .cons (.cell _) (.cons (.cell _) (.cons (.cell _) (.cons (.cell _) (.nil _ _))))) rfl rfl rfl rfl rfl) .nil))))) ?_
 refine e_append rfl rfl rfl rfl (kn rfl) rfl (kn rfl) sl_26 ap_26 rfl rfl (by first | omega | (dsimp only; omega) | omega) (by first | omega | (dsimp only; omega) | omega) ?_
 refine l_op (s_nil_box rfl (kn rfl)) ?_
 refine e_store_own rfl rfl rfl (kn rfl) rfl (kn rfl) rfl rfl sz_26 rfl ?_
 refine e_nil ?_
 try refine e_fl ?_
 refine e_plain (w_as rfl rfl rfl rfl rfl .nil) ?_
 try refine e_fl ?_
 exact e_returnx (mS l ((Msg.mk nm fs os ms es rs ns ln cl).addEnum g) z) (pmR ((Msg.mk nm fs os ms es rs ns ln cl).addEnum g)) rfl (.tmp (kn rfl) (.nil)) (Imp.refl _) ⟨s_b, s_b, trivial⟩ ⟨rfl, rfl, rfl, rowEq rfl (by simp [Msg.addEnum, Msg.enums]) (by simp [Msg.addEnum, Msg.enums, List.flatMap_append, Enm.dats]), rfl, rfl, trivial⟩ (.inr ⟨(Msg.mk nm fs os ms es rs ns ln cl).addEnum g, z, by simp only [withEnm, sEnum_blk, hx, ho], rfl, rfl, rfl⟩)
set_option maxRecDepth 100000 in
set_option maxHeartbeats 1000000 in
theorem enumB_g (E8 E9 : Er) (l : List Tk) (hl : PTk l) (m : Fil) (hm : m.enums.length ≤ 100000000000) (p : Nat) (hp : p ≤ 100000) : EG Tryd.prog (gE E8 E9) 56 [.box 1 0, .box 7 2] (flB l m p) (flR m) (LE l E8 E9 (withEnmF m (sEnum l p))) := by
 refine eg_enter 37 Tryd.func56 rfl rfl rfl fun w D bor mb => ?_
 try refine e_fl ?_
 have hll := hl.len
 refine e_list ?_
 refine e_boxi 4 rfl rfl rfl rfl (kn rfl) rfl rfl rfl rfl rfl ?_
 refine l_as ?_
 refine e_nil ?_
 try refine e_fl ?_
 refine e_list ?_
 refine l_op (s_load1_box rfl (kn rfl) rfl rfl one_86) ?_
 refine e_calli rfl rfl rfl rfl (by kernel_rfl) (token_g E8 E9 l hl.toTksOk (p) 1 (by omega)) ⟨rfl, trivial⟩ trivial ⟨(kn rfl), ⟨(kn rfl), trivial⟩⟩ (TY.tidy) ?_
 rintro _ _ _ (⟨hk, rfl, rfl, rfl⟩ | ⟨hk, rfl, rfl, rfl⟩)
 ·refine l_mv ?_
  refine l_ex ?_
  refine l_ex ?_
  refine e_alloc 5 [.is (.int .i64 0), .is (.string ⟨#[]⟩), .is (.int .i64 0), .is (.int .i64 0), .is (.int .i64 0)] rfl rfl rfl rfl zr_67 (fun w D M V => ⟨rfl, fun j x v h1 h2 => cfit_is _ h1 h2 rfl⟩) rfl rfl rfl rfl ?_
  refine e_storew rfl rfl rfl (kn rfl) rfl (kn rfl) rfl rfl sz_67 ?_
  refine l_as ?_
  refine e_nil ?_
  try refine e_fl ?_
  refine e_plain (w_mv rfl rfl rfl rfl rfl (w_op rfl rfl rfl (s_err_neq rfl (kn rfl) rfl ifc_30) .nil)) ?_
  try refine e_fl ?_
  refine c_yes ?_
  try refine e_fl ?_
  refine e_plain (w_mv rfl rfl rfl rfl rfl (w_as rfl rfl rfl rfl rfl .nil)) ?_
  try refine e_fl ?_
  exact e_returnx (flB l (m) p) (flR (m)) rfl (.tmp (kn rfl) (.nil)) (Imp.refl _) ⟨s_b, s_b, trivial⟩ ⟨rfl, rfl, trivial⟩ (.inl ⟨p, 9, p, _, by simp only [withEnmF, sEnum_blk, name_not hk], rfl, rfl, rfl⟩)
 refine l_mv ?_
 refine l_ex ?_
 refine l_ex ?_
 refine e_alloc 5 [.is (.int .i64 0), .is (.string ⟨#[]⟩), .is (.int .i64 0), .is (.int .i64 0), .is (.int .i64 0)] rfl rfl rfl rfl zr_67 (fun w D M V => ⟨rfl, fun j x v h1 h2 => cfit_is _ h1 h2 rfl⟩) rfl rfl rfl rfl ?_
 refine e_storew rfl rfl rfl (kn rfl) rfl (kn rfl) rfl rfl sz_67 ?_
 refine l_as ?_
 refine e_nil ?_
 try refine e_fl ?_
 refine e_plain (w_mv rfl rfl rfl rfl rfl (w_op rfl rfl rfl (s_nil_neq rfl (kn rfl) ifc_30) .nil)) ?_
 try refine e_fl ?_
 refine c_no ?_
 try refine e_fl ?_
 obtain ⟨hlt0, hx⟩ := name_is hk
 refine e_list ?_
 refine l_op (s_faddr_box rfl (kn rfl) off_67_1) ?_
 refine l_op (s_load1_box rfl (kn rfl) rfl rfl one_9) ?_
 refine l_op (s_faddr_box rfl (kn rfl) off_67_3) ?_
 refine l_op (s_load1_box rfl (kn rfl) rfl rfl one_3) ?_
 refine l_op (s_faddr_box rfl (kn rfl) off_67_4) ?_
 refine l_op (s_load1_box rfl (kn rfl) rfl rfl one_3) ?_
 refine l_op (s_build (ds := [_, _, _, _]) [(0, _), (2, _), (3, _)] rfl ⟨rfl, (kn rfl), ⟨rfl, (kn rfl), ⟨rfl, (kn rfl), trivial⟩⟩⟩ rfl pl_77 zr_77 (fun w D => .cons (.cell _) (.cons (.cell _) (.cons (.cell _) (.cons (.cell _) (.nil _ _))))) rfl) ?_
 refine e_alloc 6 [.is (.string ⟨#[]⟩), .is (.slice none 0 0), .is (.int .i64 0), .is (.int .i64 0)] rfl rfl rfl rfl zr_77 (fun w D M V => ⟨rfl, fun j x v h1 h2 => cfit_is _ h1 h2 rfl⟩) rfl rfl rfl rfl ?_
 refine e_storew rfl rfl rfl (kn rfl) rfl (kn rfl) rfl rfl sz_77 ?_
 refine e_nil ?_
 try refine e_fl ?_
 refine e_row_cell 6 1 300 137 4 rfl rfl rfl rfl rfl ?_
 refine e_list ?_
 refine l_op (s_load1_box rfl (kn rfl) rfl rfl one_86) ?_
 refine l_op (s_func (fs := []) (cs := [.box 4 0, .box 6 0]) rfl trivial ⟨(kn rfl), (kn rfl), trivial⟩) ?_
 refine e_calli rfl rfl rfl rfl (by kernel_rfl) (blkE E8 E9 l hl ⟨(tkAt l p).1.t, [], (tkAt l p).2.1, (tkAt l p).2.2⟩ (p + 1) (by omega) (fun q _ => Nat.zero_le q)) ⟨rfl, rfl, rfl, trivial⟩ ⟨rfl, trivial⟩ ⟨(kn rfl), ⟨(kn rfl), ⟨(kn rfl), trivial⟩⟩⟩ (VE4.tidy) ?_
 rintro _ _ _ (⟨a, b, z, g, he, rfl, rfl, rfl⟩ | ⟨g, z, ho, rfl, rfl, rfl⟩)
 ·refine l_as ?_
  refine e_nil ?_
  try refine e_fl ?_
  refine e_plain (w_mv rfl rfl rfl rfl rfl (w_op rfl rfl rfl (s_err_neq rfl (kn rfl) rfl ifc_30) .nil)) ?_
  try refine e_fl ?_
  refine c_yes ?_
  try refine e_fl ?_
  refine e_plain (w_mv rfl rfl rfl rfl rfl (w_as rfl rfl rfl rfl rfl .nil)) ?_
  try refine e_fl ?_
  exact e_returnx (flB l (m) z) (flR (m)) rfl (.tmp (kn rfl) (.nil)) (Imp.refl _) ⟨s_b, s_b, trivial⟩ ⟨rfl, rfl, trivial⟩ (.inl ⟨a, b, z, _, by simp only [withEnmF, sEnum_blk, hx, he], rfl, rfl, rfl⟩)
 refine l_as ?_
 refine e_nil ?_
 try refine e_fl ?_
 refine e_plain (w_mv rfl rfl rfl rfl rfl (w_op rfl rfl rfl (s_nil_neq rfl (kn rfl) ifc_30) .nil)) ?_
 try refine e_fl ?_
 refine c_no ?_
 try refine e_fl ?_
 refine e_freeze_cell 6 1 300 rfl rfl rfl rfl rfl ?_
 refine e_draw_float 6 mixed (by kernel_rfl) rfl rfl rfl rfl (kn rfl) (fun _ _ _ _ h => h) (w_mv rfl rfl rfl rfl rfl (w_op rfl rfl rfl (s_nil_box rfl (kn rfl)) (w_op rfl rfl rfl (s_load1_box rfl (kn rfl) rfl rfl one_26) (w_op rfl rfl rfl (s_loadn_box (ds := [_, _, _, _]) 4 rfl (kn rfl) rfl rfl agg_77 sz_77 rfl) (w_op rfl rfl rfl (s_buildSlice (ds := [_, _, _, _]) [(0, _)] rfl ⟨rfl, (kn rfl), trivial⟩ rfl sl_26 sz_77 zr_77 (fun w D => .cons (.cell _) (.cons (.cell _) (.cons (.cell _) (.cons (.cell _) (.nil _ _))))) rfl rfl rfl rfl rfl) .nil))))) ?_
 refine e_append rfl rfl rfl rfl (kn rfl) rfl (kn rfl) sl_26 ap_26 rfl rfl (by first | omega | (dsimp only; omega) | omega) (by first | omega | (dsimp only; omega) | omega) ?_
 refine l_op (s_nil_box rfl (kn rfl)) ?_
 refine e_store_own rfl rfl rfl (kn rfl) rfl (kn rfl) rfl rfl sz_26 rfl ?_
 refine e_nil ?_
 try refine e_fl ?_
 refine e_plain (w_as rfl rfl rfl rfl rfl .nil) ?_
 try refine e_fl ?_
 exact e_returnx (flB l ({ m with enums := m.enums ++ [g] }) z) (flR ({ m with enums := m.enums ++ [g] })) rfl (.tmp (kn rfl) (.nil)) (Imp.refl _) ⟨s_b, s_b, trivial⟩ ⟨rfl, rowEq rfl (by simp) (by simp [List.flatMap_append, Enm.dats]), trivial⟩ (.inr ⟨{ m with enums := m.enums ++ [g] }, z, by simp only [withEnmF, sEnum_blk, hx, ho], rfl, rfl, rfl⟩)
end Go.Proofs.YtekeanikgcpijaaDoor
namespace Go.Proofs.YtekeanikgcpijaaDoor
open Go.RowKit
abbrev FQ (f : Fil) : Part := .many f.dats
abbrev wSyntax : List UInt8 := [115, 121, 110, 116, 97, 120]
abbrev wProto3 : List UInt8 := [112, 114, 111, 116, 111, 51]
theorem sWants_two (l : List Tk) (s t : List UInt8) (p : Nat) : sWants l [s, t] p = (match sWant l (kindT s) s p with | .error e => .error e | .ok q => sWant l (kindT t) t q) := by
 rw [sWants]
 cases sWant l (kindT s) s p with
 | error e => rfl
 | ok q => exact sWants_one l t q
theorem sFile_bad {l : List Tk} {e : Nat × Nat} (h : sWants l [wSyntax, [61]] 0 = .error e) : sFile l = .error e := by
 rw [sWants_two] at h
 change (match sWant l 1 wSyntax 0 with | .error e => (.error e : Ans8 Nat) | .ok q => sWant l 4 [61] q) = _ at h
 unfold sFile
 cases h1 : sWant l 1 wSyntax 0 with
 | error e' =>
  rw [h1] at h
  cases h
  rfl
 | ok q =>
  rw [h1] at h
  dsimp only at h
  simp only [h1, h]
abbrev sHeadBehind (l : List Tk) (q : Nat) : Ans8 Fil :=
   match sText l q with
   | .error e => .error e
   | .ok (t, r) =>
    if t = [112, 114, 111, 116, 111, 51] then
     match sWant l 4 [59] r with
     | .error e => .error e
     | .ok s =>
      match sPackage l s with
      | .error e => .error e
      | .ok (pk, u) => sParts l (l.length + 1) ⟨pk, [], []⟩ u
    else form8 q
theorem sFile_ok {l : List Tk} {q : Nat} (h : sWants l [wSyntax, [61]] 0 = .ok q) : sFile l = sHeadBehind l q ∧ q ≤ l.length := by
 rw [sWants_two] at h
 change (match sWant l 1 wSyntax 0 with | .error e => (.error e : Ans8 Nat) | .ok q => sWant l 4 [61] q) = _ at h
 unfold sFile
 cases h1 : sWant l 1 wSyntax 0 with
 | error e' =>
  rw [h1] at h
  cases h
 | ok q' =>
  rw [h1] at h
  dsimp only at h
  have := sWant_ok h
  exact ⟨by simp only [h1, h]; rfl, by omega⟩
theorem file_imp {f : Fil} {c d1 d2 : Dat} {p : Part} (h0 : c = .cell (.string (str f.package))) (h1 : DImp d1 (.row 9 f.msgs.length (f.msgs.flatMap Msg.dats))) (h2 : DImp d2 (.row 4 f.enums.length (f.enums.flatMap Enm.dats))) : Imp (.tup [.many [c, d1, d2], p]) (.tup [FQ f, p]) := Imp.tup ⟨⟨DImp.of_eq h0, h1, h2, trivial⟩, PImp.refl _, trivial⟩
def placeOf (l : List Tk) (e : Nat × Nat) : Nat × Nat × Nat := if e.1 < l.length then (e.2, (tkAt l e.1).2.1, (tkAt l e.1).2.2) else (e.2, 0, 0)
def fil0 : Fil := ⟨[], [], []⟩
def sParse (l : List Tk) : Fil × Nat × Nat × Nat :=
 match sFile l with
 | .ok f => (f, 0, 0, 0)
 | .error e => (fil0, placeOf l e)
end Go.Proofs.YtekeanikgcpijaaDoor
namespace Go.Proofs.YtekeanikgcpijaaDoor
open Go.RowKit
def sSyn (l : List Tk) : Ans8 Nat :=
 match sWants l [wSyntax, [61]] 0 with
 | .error e => .error e
 | .ok q =>
  match sText l q with
  | .error e => .error e
  | .ok (t, r) => if t = wProto3 then sWant l 4 [59] r else form8 q
theorem sWants_le {l : List Tk} : ∀ {ts : List (List UInt8)} {p q : Nat}, p ≤ l.length → sWants l ts p = .ok q → q ≤ l.length
 | [], p, q, hp, h => by
  rw [sWants] at h
  injection h with h
  omega
 | t :: ts, p, q, hp, h => by
  rw [sWants] at h
  split at h
  ·cases h
  ·rename_i r hr
   have := sWant_ok hr
   exact sWants_le (by omega) h
set_option maxRecDepth 100000 in
theorem syntax_g (E8 E9 : Er) (l : List Tk) (hl : PTk l) : EG Tryd.prog (gE E8 E9) 28 [.box 1 0] (pB l 0) [] (PE l E8 E9 (sSyn l)) := by
 refine eg_enter 29 Tryd.func28 rfl rfl rfl fun w D bor mb => ?_
 try refine e_fl ?_
 have hll := hl.len
 refine e_plain (w_as rfl rfl rfl rfl rfl .nil) ?_
 try refine e_fl ?_
 refine e_list ?_
 refine l_mv ?_
 refine l_op (s_buildSlice (ds := [_, _]) [(0, _), (1, _)] rfl ⟨rfl, (kn rfl), ⟨rfl, (kn rfl), trivial⟩⟩ rfl sl_45 sz_9 zr_9 (fun w D => .cons (.cell _) (.cons (.cell _) (.nil _ _))) rfl rfl rfl rfl rfl) ?_
 refine e_calli rfl rfl rfl rfl (by kernel_rfl) (want_g E8 E9 l hl [wSyntax, [61]] (by simp) (by decide) 0 (by omega)) ⟨rfl, trivial⟩ trivial ⟨(kn rfl), ⟨(kn rfl), trivial⟩⟩ (PE.tidy) ?_
 rintro _ _ _ (⟨a, b, z, he, rfl, rfl, rfl⟩ | ⟨q, ho, rfl, rfl, rfl⟩)
 ·refine l_as ?_
  refine e_nil ?_
  try refine e_fl ?_
  refine e_plain (w_mv rfl rfl rfl rfl rfl (w_op rfl rfl rfl (s_err_neq rfl (kn rfl) rfl ifc_30) .nil)) ?_
  try refine e_fl ?_
  refine c_yes ?_
  try refine e_fl ?_
  refine e_plain (w_mv rfl rfl rfl rfl rfl (w_as rfl rfl rfl rfl rfl .nil)) ?_
  try refine e_fl ?_
  exact e_returnx (pB l z) ([]) rfl (.tmp (kn rfl) (.nil)) (Imp.refl _) ⟨s_b, trivial⟩ trivial (.inl ⟨a, b, z, by simp only [sSyn, he], rfl, rfl, rfl⟩)
 refine l_as ?_
 refine e_nil ?_
 try refine e_fl ?_
 refine e_plain (w_mv rfl rfl rfl rfl rfl (w_op rfl rfl rfl (s_nil_neq rfl (kn rfl) ifc_30) .nil)) ?_
 try refine e_fl ?_
 refine c_no ?_
 try refine e_fl ?_
 have hq := sWants_le (Nat.zero_le _) ho
 refine e_list ?_
 refine l_mv ?_
 refine e_calli rfl rfl rfl rfl (by kernel_rfl) (token_g E8 E9 l hl.toTksOk (q) 3 (by omega)) ⟨rfl, trivial⟩ trivial ⟨(kn rfl), ⟨(kn rfl), trivial⟩⟩ (TY.tidy) ?_
 rintro _ _ _ (⟨hk, rfl, rfl, rfl⟩ | ⟨hk, rfl, rfl, rfl⟩)
 ·refine l_mv ?_
  refine l_ex ?_
  refine l_ex ?_
  refine e_alloc 4 [.is (.int .i64 0), .is (.string ⟨#[]⟩), .is (.int .i64 0), .is (.int .i64 0), .is (.int .i64 0)] rfl rfl rfl rfl zr_67 (fun w D M V => ⟨rfl, fun j x v h1 h2 => cfit_is _ h1 h2 rfl⟩) rfl rfl rfl rfl ?_
  refine e_storew rfl rfl rfl (kn rfl) rfl (kn rfl) rfl rfl sz_67 ?_
  refine l_as ?_
  refine e_nil ?_
  try refine e_fl ?_
  refine e_plain (w_mv rfl rfl rfl rfl rfl (w_op rfl rfl rfl (s_err_neq rfl (kn rfl) rfl ifc_30) .nil)) ?_
  try refine e_fl ?_
  refine c_yes ?_
  try refine e_fl ?_
  refine e_plain (w_mv rfl rfl rfl rfl rfl (w_as rfl rfl rfl rfl rfl .nil)) ?_
  try refine e_fl ?_
  exact e_returnx (pB l q) ([]) rfl (.tmp (kn rfl) (.nil)) (Imp.refl _) ⟨s_b, trivial⟩ trivial (.inl ⟨q, 9, q, by simp only [sSyn, ho, text_not hk], rfl, rfl, rfl⟩)
 refine l_mv ?_
 refine l_ex ?_
 refine l_ex ?_
 refine e_alloc 4 [.is (.int .i64 0), .is (.string ⟨#[]⟩), .is (.int .i64 0), .is (.int .i64 0), .is (.int .i64 0)] rfl rfl rfl rfl zr_67 (fun w D M V => ⟨rfl, fun j x v h1 h2 => cfit_is _ h1 h2 rfl⟩) rfl rfl rfl rfl ?_
 refine e_storew rfl rfl rfl (kn rfl) rfl (kn rfl) rfl rfl sz_67 ?_
 refine l_as ?_
 refine e_nil ?_
 try refine e_fl ?_
 refine e_plain (w_mv rfl rfl rfl rfl rfl (w_op rfl rfl rfl (s_nil_neq rfl (kn rfl) ifc_30) .nil)) ?_
 try refine e_fl ?_
 refine c_no ?_
 try refine e_fl ?_
 obtain ⟨hlt, hx⟩ := text_is hk
 refine e_plain (w_op rfl rfl rfl (s_faddr_box rfl (kn rfl) off_67_1) (w_op rfl rfl rfl (s_load1_box rfl (kn rfl) rfl rfl one_9) (w_op rfl rfl rfl (s_bin rfl (kn rfl) (kn rfl) (v_sneq (b := [112, 114, 111, 116, 111, 51]))) .nil))) ?_
 try refine e_fl ?_
 refine e_cond rfl (fun h => ?_) (fun h => ?_)
 ·have h1 : ¬ (tkAt l q).1.t = wProto3 := of_decide_eq_false (not_t h)
  try refine e_fl ?_
  refine e_plain (w_op rfl rfl rfl (s_loadn_box (ds := [_, _, _, _, _]) 5 rfl (kn rfl) rfl rfl agg_67 sz_67 rfl) (w_op rfl rfl rfl (s_load_gl rfl (kn rfl) (List.mem_cons_of_mem _ (List.mem_singleton.2 rfl)) one_30) (w_op rfl rfl rfl (s_call rfl (by kernel_rfl) (fault_ef _ l q E9) ⟨(kn rfl), ⟨(kn rfl), trivial⟩⟩) (w_as rfl rfl rfl rfl rfl .nil)))) ?_
  try refine e_fl ?_
  exact e_returnx (pB l (q + 1)) ([]) rfl (.tmp (kn rfl) (.nil)) (Imp.refl _) ⟨s_b, trivial⟩ trivial (.inl ⟨q, 9, q + 1, by simp only [sSyn, ho, hx, if_neg h1]; rfl, rfl, rfl, rfl⟩)
 have h1 : (tkAt l q).1.t = wProto3 := of_decide_eq_true (not_f h)
 have hw : sSyn l = sWant l 4 [59] (q + 1) := by simp only [sSyn, ho, hx, if_pos h1]
 try refine e_fl ?_
 refine e_list ?_
 refine l_mv ?_
 refine l_op (s_buildSlice (ds := [_]) [(0, _)] rfl ⟨rfl, (kn rfl), trivial⟩ rfl sl_45 sz_9 zr_9 (fun w D => .cons (.cell _) (.nil _ _)) rfl rfl rfl rfl rfl) ?_
 refine e_calli rfl rfl rfl rfl (by kernel_rfl) (want1_g E8 E9 l hl 4 [59] rfl (by decide) (q + 1) (by omega)) ⟨rfl, trivial⟩ trivial ⟨(kn rfl), ⟨(kn rfl), trivial⟩⟩ (PE.tidy) ?_
 rintro _ _ _ (⟨a, b, z, he, rfl, rfl, rfl⟩ | ⟨z, hz, rfl, rfl, rfl⟩)
 ·refine l_as ?_
  refine e_nil ?_
  try refine e_fl ?_
  exact e_returnx (pB l z) ([]) rfl (.tmp (kn rfl) (.nil)) (Imp.refl _) ⟨s_b, trivial⟩ trivial (.inl ⟨a, b, z, hw.trans he, rfl, rfl, rfl⟩)
 ·refine l_as ?_
  refine e_nil ?_
  try refine e_fl ?_
  exact e_returnx (pB l z) ([]) rfl (.tmp (kn rfl) (.nil)) (Imp.refl _) ⟨s_b, trivial⟩ trivial (.inr ⟨z, hw.trans hz, rfl, rfl, rfl⟩)
end Go.Proofs.YtekeanikgcpijaaDoor
namespace Go.Proofs.YtekeanikgcpijaaDoor
open Go.RowKit
def Enm.fine (e : Enm) : Prop := e.vals.length ≤ 100000000000
mutual
def Msg.fine : Msg → Prop
 | .mk _ f o m e r s _ _ => f.length ≤ 100000000000 ∧ o.length ≤ 100000000000 ∧ m.length ≤ 100000000000 ∧ e.length ≤ 100000000000 ∧ r.length ≤ 100000000000 ∧ s.length ≤ 100000000000 ∧ (∀ x ∈ e, x.fine) ∧ Msg.fines m
def Msg.fines : List Msg → Prop
 | [] => True
 | k :: ks => k.fine ∧ Msg.fines ks
end
theorem Msg.fines_iff : ∀ ms : List Msg, Msg.fines ms ↔ ∀ k ∈ ms, k.fine
 | [] => by simp [Msg.fines]
 | k :: ks => by rw [Msg.fines, Msg.fines_iff ks]; simp
theorem Msg.fine_iff (m : Msg) : m.fine ↔ (m.fields.length ≤ 100000000000 ∧ m.oneofs.length ≤ 100000000000 ∧ m.msgs.length ≤ 100000000000 ∧ m.enums.length ≤ 100000000000 ∧ m.reserved.length ≤ 100000000000 ∧ m.names.length ≤ 100000000000 ∧ (∀ x ∈ m.enums, x.fine) ∧ ∀ k ∈ m.msgs, k.fine) := by
 obtain ⟨nm, fs, os, ms, es, rs, ns, ln, cl⟩ := m
 rw [Msg.fine, Msg.fines_iff]
 rfl
def Fil.fine (f : Fil) : Prop := f.msgs.length ≤ 100000000000 ∧ f.enums.length ≤ 100000000000 ∧ (∀ x ∈ f.enums, x.fine) ∧ ∀ k ∈ f.msgs, k.fine
end Go.Proofs.YtekeanikgcpijaaDoor
namespace Go.Proofs.YtekeanikgcpijaaDoor
theorem sVals_len {l : List Tk} : ∀ (n : Nat) (vs : List Val) (p : Nat) {ws : List Val} {q : Nat}, p ≤ l.length → sVals l n vs p = .ok (ws, q) → ws.length + p ≤ vs.length + q
 | 0, vs, p, ws, q, hp, h => by cases h
 | n + 1, vs, p, ws, q, hp, h => by
  have hs := semis_le hp
  simp only [sVals] at h
  split at h
  ·rename_i h1
   have := tkIs_lt h1
   split at h
   ·cases h
   ·injection h with h
    injection h with h2 h3
    subst h2
    omega
  split at h
  ·cases h
  rename_i v r hv
  have h1 := sValue_ok hv
  have := sVals_len n _ _ (by omega) h
  rw [List.length_append] at this
  simp only [List.length_cons, List.length_nil] at this
  omega
theorem sEnum_fine {l : List Tk} (hl : l.length ≤ 100000) {p q : Nat} {x : Enm} (h : sEnum l p = .ok (x, q)) : x.fine := by
 unfold sEnum at h
 split at h
 ·cases h
 rename_i y r hx
 split at h
 ·cases h
 rename_i vs s hs
 have h1 := sHead_ok hx
 have h2 := sVals_ok _ _ _ h1.2 hs
 have h3 := sVals_len _ _ _ h1.2 hs
 injection h with h
 injection h with h4 h5
 subst h4
 show vs.length ≤ _
 simp only [List.length_nil] at h3
 omega
theorem sFlds_len {l : List Tk} {a : Int} : ∀ (n : Nat) (vs : List Fld) (p : Nat) {ws : List Fld} {q : Nat}, p ≤ l.length → sFlds l a n vs p = .ok (ws, q) → ws.length + p ≤ vs.length + q
 | 0, vs, p, ws, q, hp, h => by cases h
 | n + 1, vs, p, ws, q, hp, h => by
  have hs := semis_le hp
  simp only [sFlds] at h
  split at h
  ·rename_i h1
   have := tkIs_lt h1
   split at h
   ·cases h
   ·injection h with h
    injection h with h2 h3
    subst h2
    omega
  split at h
  ·cases h
  rename_i v r hv
  have h1 := sField_ok hv
  have := sFlds_len n _ _ (by omega) h
  rw [List.length_append] at this
  simp only [List.length_cons, List.length_nil] at this
  omega
theorem sOneof_len {l : List Tk} {p q : Nat} {a : Int} {x : List UInt8 × List Fld} (h : sOneof l p a = .ok (x, q)) : x.2.length + p ≤ q := by
 unfold sOneof at h
 split at h
 ·cases h
 rename_i y r hx
 split at h
 ·cases h
 rename_i vs s hs
 have h1 := sHead_ok hx
 have h2 := sFlds_len _ _ _ h1.2 hs
 injection h with h
 injection h with h4 h5
 subst h4
 simp only [List.length_nil] at h2
 dsimp only
 omega
theorem sRanges_len {l : List Tk} : ∀ (n : Nat) (s : List (Int × Int)) (p : Nat) {t : List (Int × Int)} {q : Nat}, sRanges l n s p = .ok (t, q) → t.length + p ≤ s.length + q
 | 0, s, p, t, q, h => by cases h
 | n + 1, s, p, t, q, h => by
  unfold sRanges at h
  split at h
  ·cases h
  rename_i x r hx
  have h1 := sRange_ok hx
  split at h
  ·have := sRanges_len n _ _ h
   rw [List.length_append] at this
   simp only [List.length_cons, List.length_nil] at this
   omega
  split at h
  ·cases h
  rename_i u hu
  have h3 := sWant_ok hu
  injection h with h
  injection h with h4 h5
  subst h4
  rw [List.length_append]
  simp only [List.length_cons, List.length_nil]
  omega
theorem sTexts_len {l : List Tk} : ∀ (n : Nat) (s : List (List UInt8)) (p : Nat) {t : List (List UInt8)} {q : Nat}, sTexts l n s p = .ok (t, q) → t.length + p ≤ s.length + q
 | 0, s, p, t, q, h => by cases h
 | n + 1, s, p, t, q, h => by
  unfold sTexts at h
  split at h
  ·cases h
  rename_i x r hx
  have h1 := sText_ok hx
  split at h
  ·have := sTexts_len n _ _ h
   rw [List.length_append] at this
   simp only [List.length_cons, List.length_nil] at this
   omega
  split at h
  ·cases h
  rename_i u hu
  have h3 := sWant_ok hu
  injection h with h
  injection h with h4 h5
  subst h4
  rw [List.length_append]
  simp only [List.length_cons, List.length_nil]
  omega
theorem sReserved_len {l : List Tk} {p q : Nat} {x : List (Int × Int) × List (List UInt8)} (h : sReserved l p = .ok (x, q)) : x.1.length + p ≤ q ∧ x.2.length + p ≤ q := by
 have h0 := sReserved_ok h
 unfold sReserved at h
 split at h
 ·split at h
  ·cases h
  rename_i ts r hr
  have h1 := sTexts_len _ _ _ hr
  injection h with h
  injection h with h4 h5
  subst h4
  simp only [List.length_nil] at h1 ⊢
  omega
 ·split at h
  ·cases h
  rename_i rs r hr
  have h1 := sRanges_len _ _ _ hr
  injection h with h
  injection h with h4 h5
  subst h4
  simp only [List.length_nil] at h1 ⊢
  omega
def FineTo (m : Msg) (z : Nat) : Prop := Small m z ∧ (∀ x ∈ m.enums, x.fine) ∧ ∀ k ∈ m.msgs, k.fine
theorem FineTo.fine {m : Msg} {z : Nat} (h : FineTo m z) (hz : z ≤ 100000000000) : m.fine := by
 obtain ⟨⟨a1, a2, a3, a4, a5, a6⟩, h2, h3⟩ := h
 exact (Msg.fine_iff m).2 ⟨by omega, by omega, by omega, by omega, by omega, by omega, h2, h3⟩
theorem sPart_fine {l : List Tk} (hl : l.length ≤ 100000) {sub : Nat → Ans8 (Msg × Nat)} (hst : Steps l sub) (hsub : ∀ p x q, sub p = .ok (x, q) → x.fine) {m m' : Msg} {p q z : Nat} (hm : FineTo m z) (h : sPart l sub m p = .ok (m', q)) : FineTo m' (z + (q - p)) := by
 obtain ⟨nm, fs, os, ms, es, rs, ns, ln, cl⟩ := m
 obtain ⟨⟨a1, a2, a3, a4, a5, a6⟩, b1, b2⟩ := hm
 have hpq := sPart_ok hst h
 simp only [Msg.fields, Msg.oneofs, Msg.msgs, Msg.enums, Msg.reserved, Msg.names] at a1 a2 a3 a4 a5 a6 b1 b2
 simp only [sPart] at h
 split at h
 ·split at h
  ·cases h
  rename_i k r hr
  have h1 := hsub _ _ _ hr
  injection h with h
  injection h with h4 h5
  subst h4 h5
  refine ⟨⟨?_, ?_, ?_, ?_, ?_, ?_⟩, b1, ?_⟩ <;> simp only [Msg.addMsg, Msg.fields, Msg.oneofs, Msg.msgs, Msg.enums, Msg.reserved, Msg.names, List.length_append, List.length_cons, List.length_nil] <;> try omega
  intro k' hk
  rcases List.mem_append.1 hk with hk | hk
  ·exact b2 k' hk
  ·rw [List.mem_singleton.1 hk]
   exact h1
 split at h
 ·split at h
  ·cases h
  rename_i k r hr
  have h1 := sEnum_fine hl hr
  injection h with h
  injection h with h4 h5
  subst h4 h5
  refine ⟨⟨?_, ?_, ?_, ?_, ?_, ?_⟩, ?_, b2⟩ <;> simp only [Msg.addEnum, Msg.fields, Msg.oneofs, Msg.msgs, Msg.enums, Msg.reserved, Msg.names, List.length_append, List.length_cons, List.length_nil] <;> try omega
  intro k' hk
  rcases List.mem_append.1 hk with hk | hk
  ·exact b1 k' hk
  ·rw [List.mem_singleton.1 hk]
   exact h1
 split at h
 ·split at h
  ·cases h
  rename_i k r hr
  have h1 := sOneof_len hr
  injection h with h
  injection h with h4 h5
  subst h4 h5
  refine ⟨⟨?_, ?_, ?_, ?_, ?_, ?_⟩, b1, b2⟩ <;> simp only [Msg.addOneof, Msg.fields, Msg.oneofs, Msg.msgs, Msg.enums, Msg.reserved, Msg.names, List.length_append, List.length_cons, List.length_nil] <;> omega
 split at h
 ·split at h
  ·cases h
  rename_i k r hr
  have h1 := sReserved_len hr
  injection h with h
  injection h with h4 h5
  subst h4 h5
  refine ⟨⟨?_, ?_, ?_, ?_, ?_, ?_⟩, b1, b2⟩ <;> simp only [Msg.addReserved, Msg.fields, Msg.oneofs, Msg.msgs, Msg.enums, Msg.reserved, Msg.names, List.length_append] <;> omega
 split at h
 ·cases h
 rename_i k r hr
 injection h with h
 injection h with h4 h5
 subst h4 h5
 refine ⟨⟨?_, ?_, ?_, ?_, ?_, ?_⟩, b1, b2⟩ <;> simp only [Msg.addField, Msg.fields, Msg.oneofs, Msg.msgs, Msg.enums, Msg.reserved, Msg.names, List.length_append, List.length_cons, List.length_nil] <;> omega
theorem sBody_fine {l : List Tk} (hl : l.length ≤ 100000) {sub : Nat → Ans8 (Msg × Nat)} (hst : Steps l sub) (hsub : ∀ p x q, sub p = .ok (x, q) → x.fine) : ∀ (n : Nat) (m : Msg) (p : Nat) {m' : Msg} {q : Nat}, p ≤ l.length → FineTo m p → sBody l sub n m p = .ok (m', q) → FineTo m' q
 | 0, m, p, m', q, hp, hm, h => by cases h
 | n + 1, m, p, m', q, hp, hm, h => by
  have hs := semis_le hp
  simp only [sBody] at h
  split at h
  ·rename_i h1
   have := tkIs_lt h1
   injection h with h
   injection h with h2 h3
   subst h2 h3
   exact ⟨hm.1.mono (by omega), hm.2⟩
  split at h
  ·cases h
  rename_i v r hv
  have h1 := sPart_ok hst hv
  have h2 := sPart_fine hl hst hsub hm hv
  exact sBody_fine hl hst hsub n v r (by omega) ⟨h2.1.mono (by omega), h2.2⟩ h
theorem sMessage_fine {l : List Tk} (hl : l.length ≤ 100000) : ∀ d p x q, sMessage l d p = .ok (x, q) → x.fine
 | 0, p, x, q, h => by
  unfold sMessage at h
  split at h <;> cases h
 | d + 1, p, x, q, h => by
  have h0 := sMessage_ok l (d + 1) p x q h
  unfold sMessage at h
  split at h
  ·cases h
  rename_i y r hx
  split at h
  ·cases h
  rename_i s hs
  have h2 := sWant_ok hs
  have h3 : FineTo (.mk y.1.t [] [] [] [] [] [] y.2.1 y.2.2) s := ⟨⟨Nat.zero_le _, Nat.zero_le _, Nat.zero_le _, Nat.zero_le _, Nat.zero_le _, Nat.zero_le _⟩, fun x hx => (by cases hx), fun k hk => (by cases hk)⟩
  exact FineTo.fine (sBody_fine hl (sMessage_ok l d) (sMessage_fine hl d) _ _ _ (by omega) h3 h) (by omega)
theorem sParts_fine {l : List Tk} (hl : l.length ≤ 100000) : ∀ (n : Nat) (f : Fil) (p : Nat) {g : Fil}, f.fine → f.msgs.length ≤ p → f.enums.length ≤ p → p ≤ l.length → sParts l n f p = .ok g → g.fine
 | 0, f, p, g, hf, h1, h2, hp, h => by cases h
 | n + 1, f, p, g, hf, h1, h2, hp, h => by
  rw [sParts] at h
  split at h
  ·rename_i hlt
   split at h
   ·exact sParts_fine hl n f (p + 1) hf (by omega) (by omega) (by omega) h
   split at h
   ·split at h
    ·cases h
    rename_i m q hm
    have h3 := sMessage_fine hl _ _ _ _ hm
    have h4 := sMessage_ok l _ _ _ _ hm
    refine sParts_fine hl n { f with msgs := f.msgs ++ [m] } q ⟨?_, hf.2.1, hf.2.2.1, fun k hk => ?_⟩ ?_ ?_ h4.2 h
    ·simp only [List.length_append, List.length_cons, List.length_nil]
     omega
    ·rcases List.mem_append.1 hk with hk | hk
     ·exact hf.2.2.2 k hk
     ·rw [List.mem_singleton.1 hk]
      exact h3
    ·simp only [List.length_append, List.length_cons, List.length_nil]
     omega
    ·dsimp only
     omega
   split at h
   ·split at h
    ·cases h
    rename_i m q hm
    have h3 := sEnum_fine hl hm
    have h4 := sEnum_ok hm
    refine sParts_fine hl n { f with enums := f.enums ++ [m] } q ⟨hf.1, ?_, fun k hk => ?_, hf.2.2.2⟩ ?_ ?_ h4.2 h
    ·simp only [List.length_append, List.length_cons, List.length_nil]
     omega
    ·rcases List.mem_append.1 hk with hk | hk
     ·exact hf.2.2.1 k hk
     ·rw [List.mem_singleton.1 hk]
      exact h3
    ·dsimp only
     omega
    ·simp only [List.length_append, List.length_cons, List.length_nil]
     omega
   ·cases h
  ·injection h with h
   subst h
   exact hf
end Go.Proofs.YtekeanikgcpijaaDoor
