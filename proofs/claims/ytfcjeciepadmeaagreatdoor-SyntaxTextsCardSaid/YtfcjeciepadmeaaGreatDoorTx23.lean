/- Part 23 of what the last text of this claim is proved by: walks over the program, and the math behind them. Conditions: as each theorem says. -/
import Derived.Test.YtfcjeciepadmeaaGreatDoorTx22
import Derived.Test.YtfcjeciepadmeaaGreatDoorProg
namespace Go.Proofs.YtfcjeciepadmeaaGreatDoor
open Go.RowKit
theorem tkIs_one {l : List Tk} {p k : Nat} {s t : List UInt8} (h : tkIs l p k s = true) (hs : s ≠ []) (ht : t ≠ []) (hne : s ≠ t) : tkIs l p k t = false := by
 unfold tkIs at h ⊢
 cases hx : l[p]? with
 | none => rfl
 | some x =>
  rw [hx] at h
  simp only [Bool.and_eq_true, decide_eq_true_eq, Bool.or_eq_true] at h
  obtain ⟨h1, h2⟩ := h
  have h3 : x.1.t = s := h2.resolve_left hs
  have h4 : ¬ x.1.t = t := fun e => hne (h3.symm.trans e)
  simp [ht, h4]
theorem tkIs_kind {l : List Tk} {p k : Nat} {s : List UInt8} (h : tkIs l p k s = true) : (tkAt l p).1.k = k := by
 have hlt := tkIs_lt h
 unfold tkIs at h
 rw [tkAt_lt hlt] at h
 simp only [Bool.and_eq_true, decide_eq_true_eq] at h
 exact h.1
theorem sVals_blk (l : List Tk) (x : Tk) : ∀ (d n m : Nat) (vs : List Val) (p : Nat), l.length + 1 - p ≤ d → p ≤ l.length → l.length + 1 ≤ n + p → l.length + 1 ≤ m + p →
  (match sVals l n vs p with | .error e => (.error e : Ans8 (Enm × Nat)) | .ok (us, r) => .ok (⟨x.1.t, us, x.2.1, x.2.2⟩, r)) = sBlk l 1 (withVal l) m ⟨x.1.t, vs, x.2.1, x.2.2⟩ vs.length p
 | 0, _, _, _, p, hd, hp, _, _ => by omega
 | d + 1, 0, _, _, p, hd, hp, hn, _ => by omega
 | d + 1, _, 0, _, p, hd, hp, _, hm => by omega
 | d + 1, n + 1, m + 1, vs, p, hd, hp, hn, hm => by
  by_cases hs : tkIs l p 4 [59] = true
  ·have hlt := tkIs_lt hs
   have hc := tkIs_one (t := [125]) hs (by simp) (by simp) (by decide)
   have ih := sVals_blk l x d (n + 1) m vs (p + 1) (by omega) (by omega) (by omega) (by omega)
   rw [sBlk, hc, hs]
   simp only [Bool.not_false, Bool.or_true, Bool.not_true, Bool.false_eq_true, if_false, if_true]
   rw [← ih]
   rw [sVals, sVals, semis_more hs]
  ·have hs' : tkIs l p 4 [59] = false := by simpa using hs
   rw [sVals, sBlk, semis_done hs', hs']
   by_cases hc : tkIs l p 4 [125] = true
   ·rw [hc]
    cases vs with
    | nil =>
     have h1 : sName l p = .error (p, 9) := name_not (by rw [tkIs_kind hc]; decide)
     simp [withVal, sValue, h1, form8]
    | cons v vs => simp
   ·have hc' : tkIs l p 4 [125] = false := by simpa using hc
    rw [hc']
    simp only [Bool.not_false, Bool.or_true, Bool.not_true, Bool.false_eq_true, if_false]
    cases hv : sValue l p with
    | error e => simp only [withVal, hv]
    | ok y =>
     obtain ⟨v, q⟩ := y
     have hq := sValue_ok hv
     simp only [withVal, hv]
     rcases Nat.eq_zero_or_pos n with h0 | h0
     ·omega
     ·have ih := sVals_blk l x d n m (vs ++ [v]) q (by omega) (by omega) (by omega) (by omega)
      rw [List.length_append] at ih
      exact ih
theorem sEnum_blk (l : List Tk) (p : Nat) : sEnum l p = match sName l p with
 | .error e => .error e
 | .ok (x, q) => sBlock l 1 (withVal l) ⟨x.1.t, [], x.2.1, x.2.2⟩ q := by
 unfold sEnum sHead sBlock
 cases hx : sName l p with
 | error e => rfl
 | ok x =>
  obtain ⟨x, q⟩ := x
  dsimp only
  cases hw : sWant l 4 [123] q with
  | error e => rfl
  | ok r =>
   dsimp only
   have hr := sWant_ok hw
   exact sVals_blk l x _ (l.length + 1) (l.length + 1) [] r (Nat.le_refl _) (by omega) (by omega) (by omega)
def withEnm (m : Msg) (r : Ans8 (Enm × Nat)) : Ans8 (Msg × Nat) :=
 match r with
 | .error e => .error e
 | .ok (g, q) => .ok (m.addEnum g, q)
abbrev flX (f : Fil) : Bx := ⟨26, [.is (.string (str f.package)), .own 400, .own 401]⟩
abbrev flR (f : Fil) : RL := [(400, ⟨52, 9, f.msgs.length, f.msgs.flatMap Msg.dats, false⟩), (401, ⟨76, 4, f.enums.length, f.enums.flatMap Enm.dats, false⟩)]
abbrev flB (l : List Tk) (f : Fil) (q : Nat) : BL := [(1, pX l q), (7, flX f)]
abbrev LE (l : List Tk) (E8 E9 : Er) (r : Ans8 (Fil × Nat)) (y : IV) (B1 : BL) (R1 : RL) : Prop := ME l E8 E9 (flB l) flR r y B1 R1
theorem LE.tidy {l : List Tk} {E8 E9 : Er} {r : Ans8 (Fil × Nat)} {m : Fil} {q : Nat} (y : IV) (B1 : BL) (R1 : RL) (h : LE l E8 E9 r y B1 R1) : Tidy (flB l m q) (flR m) y B1 R1 := by
 rcases h with ⟨a, b, z, x, _, rfl, rfl, rfl⟩ | ⟨x, z, _, rfl, rfl, rfl⟩ <;> exact ⟨rfl, rfl, rfl, rfl⟩
def withEnmF (f : Fil) (r : Ans8 (Enm × Nat)) : Ans8 (Fil × Nat) :=
 match r with
 | .error e => .error e
 | .ok (g, q) => .ok ({ f with enums := f.enums ++ [g] }, q)
set_option maxRecDepth 100000 in
set_option maxHeartbeats 1000000 in
theorem enumA_g (E8 E9 : Er) (l : List Tk) (hl : PTk l) (m : Msg) (hm : Small m 100000000000) (p : Nat) (hp : p ≤ 100000) : EG Tryz.prog (gE E8 E9) 89 [.box 1 0, .box 3 4] (mS l m p) (pmR m) (NE l E8 E9 (withEnm m (sEnum l p))) := by
 obtain ⟨nm, fs, os, ms, es, rs, ns, ln, cl⟩ := m
 have hm1 : (Msg.mk nm fs os ms es rs ns ln cl).enums.length ≤ 100000000000 := hm.2.2.2.1
 refine eg_enter 37 Tryz.func89 rfl rfl rfl fun w D bor mb => ?_
 try refine e_fl ?_
 have hll := hl.len
 refine e_list ?_
 refine e_boxi 4 rfl rfl rfl rfl (kn rfl) rfl rfl rfl rfl rfl ?_
 refine l_as ?_
 refine e_nil ?_
 try refine e_fl ?_
 refine e_list ?_
 refine l_op (s_load1_box rfl (kn rfl) rfl rfl one_123) ?_
 refine e_calli rfl rfl rfl rfl (by kernel_rfl) (token_g E8 E9 l hl.toTksOk (p) 1 (by omega)) ⟨rfl, trivial⟩ trivial ⟨(kn rfl), ⟨(kn rfl), trivial⟩⟩ (TY.tidy) ?_
 rintro _ _ _ (⟨hk, rfl, rfl, rfl⟩ | ⟨hk, rfl, rfl, rfl⟩)
 ·refine l_mv ?_
  refine l_ex ?_
  refine l_ex ?_
  refine e_alloc 5 [.is (.int .i64 0), .is (.string ⟨#[]⟩), .is (.int .i64 0), .is (.int .i64 0), .is (.int .i64 0)] rfl rfl rfl rfl zr_45 (fun w D M V => ⟨rfl, fun j x v h1 h2 => cfit_is _ h1 h2 rfl⟩) rfl rfl rfl rfl ?_
  refine e_storew rfl rfl rfl (kn rfl) rfl (kn rfl) rfl rfl sz_45 ?_
  refine l_as ?_
  refine e_nil ?_
  try refine e_fl ?_
  refine e_plain (w_mv rfl rfl rfl rfl rfl (w_op rfl rfl rfl (s_err_neq rfl (kn rfl) rfl ifc_28) .nil)) ?_
  try refine e_fl ?_
  refine c_yes ?_
  try refine e_fl ?_
  refine e_plain (w_mv rfl rfl rfl rfl rfl (w_as rfl rfl rfl rfl rfl .nil)) ?_
  try refine e_fl ?_
  exact e_returnx (mS l (Msg.mk nm fs os ms es rs ns ln cl) p) (pmR (Msg.mk nm fs os ms es rs ns ln cl)) rfl (.tmp (kn rfl) (.nil)) (Imp.refl _) ⟨s_b, s_b, trivial⟩ ⟨rfl, rfl, rfl, rfl, rfl, rfl, trivial⟩ (.inl ⟨p, 9, p, _, by simp only [withEnm, sEnum_blk, name_not hk], rfl, rfl, rfl⟩)
 refine l_mv ?_
 refine l_ex ?_
 refine l_ex ?_
 refine e_alloc 5 [.is (.int .i64 0), .is (.string ⟨#[]⟩), .is (.int .i64 0), .is (.int .i64 0), .is (.int .i64 0)] rfl rfl rfl rfl zr_45 (fun w D M V => ⟨rfl, fun j x v h1 h2 => cfit_is _ h1 h2 rfl⟩) rfl rfl rfl rfl ?_
 refine e_storew rfl rfl rfl (kn rfl) rfl (kn rfl) rfl rfl sz_45 ?_
 refine l_as ?_
 refine e_nil ?_
 try refine e_fl ?_
 refine e_plain (w_mv rfl rfl rfl rfl rfl (w_op rfl rfl rfl (s_nil_neq rfl (kn rfl) ifc_28) .nil)) ?_
 try refine e_fl ?_
 refine c_no ?_
 try refine e_fl ?_
 obtain ⟨hlt0, hx⟩ := name_is hk
 refine e_list ?_
 refine l_op (s_faddr_box rfl (kn rfl) off_45_1) ?_
 refine l_op (s_load1_box rfl (kn rfl) rfl rfl one_9) ?_
 refine l_op (s_faddr_box rfl (kn rfl) off_45_3) ?_
 refine l_op (s_load1_box rfl (kn rfl) rfl rfl one_3) ?_
 refine l_op (s_faddr_box rfl (kn rfl) off_45_4) ?_
 refine l_op (s_load1_box rfl (kn rfl) rfl rfl one_3) ?_
 refine l_op (s_build (ds := [_, _, _, _]) [(0, _), (2, _), (3, _)] rfl ⟨rfl, (kn rfl), ⟨rfl, (kn rfl), ⟨rfl, (kn rfl), trivial⟩⟩⟩ rfl pl_76 zr_76 (fun w D => .cons (.cell _) (.cons (.cell _) (.cons (.cell _) (.cons (.cell _) (.nil _ _))))) rfl) ?_
 refine e_alloc 6 [.is (.string ⟨#[]⟩), .is (.slice none 0 0), .is (.int .i64 0), .is (.int .i64 0)] rfl rfl rfl rfl zr_76 (fun w D M V => ⟨rfl, fun j x v h1 h2 => cfit_is _ h1 h2 rfl⟩) rfl rfl rfl rfl ?_
 refine e_storew rfl rfl rfl (kn rfl) rfl (kn rfl) rfl rfl sz_76 ?_
 refine e_nil ?_
 try refine e_fl ?_
 refine e_row_cell 6 1 300 118 4 rfl rfl rfl rfl rfl ?_
 refine e_list ?_
 refine l_op (s_load1_box rfl (kn rfl) rfl rfl one_123) ?_
 refine l_op (s_func (fs := []) (cs := [.box 4 0, .box 6 0]) rfl trivial ⟨(kn rfl), (kn rfl), trivial⟩) ?_
 refine e_calli rfl rfl rfl rfl (by kernel_rfl) (blkE E8 E9 l hl ⟨(tkAt l p).1.t, [], (tkAt l p).2.1, (tkAt l p).2.2⟩ (p + 1) (by omega) (fun q _ => Nat.zero_le q)) ⟨rfl, rfl, rfl, trivial⟩ ⟨rfl, trivial⟩ ⟨(kn rfl), ⟨(kn rfl), ⟨(kn rfl), trivial⟩⟩⟩ (VE4.tidy) ?_
 rintro _ _ _ (⟨a, b, z, g, he, rfl, rfl, rfl⟩ | ⟨g, z, ho, rfl, rfl, rfl⟩)
 ·refine l_as ?_
  refine e_nil ?_
  try refine e_fl ?_
  refine e_plain (w_mv rfl rfl rfl rfl rfl (w_op rfl rfl rfl (s_err_neq rfl (kn rfl) rfl ifc_28) .nil)) ?_
  try refine e_fl ?_
  refine c_yes ?_
  try refine e_fl ?_
  refine e_plain (w_mv rfl rfl rfl rfl rfl (w_as rfl rfl rfl rfl rfl .nil)) ?_
  try refine e_fl ?_
  exact e_returnx (mS l (Msg.mk nm fs os ms es rs ns ln cl) z) (pmR (Msg.mk nm fs os ms es rs ns ln cl)) rfl (.tmp (kn rfl) (.nil)) (Imp.refl _) ⟨s_b, s_b, trivial⟩ ⟨rfl, rfl, rfl, rfl, rfl, rfl, trivial⟩ (.inl ⟨a, b, z, _, by simp only [withEnm, sEnum_blk, hx, he], rfl, rfl, rfl⟩)
 refine l_as ?_
 refine e_nil ?_
 try refine e_fl ?_
 refine e_plain (w_mv rfl rfl rfl rfl rfl (w_op rfl rfl rfl (s_nil_neq rfl (kn rfl) ifc_28) .nil)) ?_
 try refine e_fl ?_
 refine c_no ?_
 try refine e_fl ?_
 refine e_freeze_cell 6 1 300 rfl rfl rfl rfl rfl ?_
 refine e_draw_float 6 mixed (by kernel_rfl) rfl rfl rfl rfl (kn rfl) (fun _ _ _ _ h => h) (w_mv rfl rfl rfl rfl rfl (w_op rfl rfl rfl (s_nil_box rfl (kn rfl)) (w_op rfl rfl rfl (s_load1_box rfl (kn rfl) rfl rfl one_24) (w_op rfl rfl rfl (s_loadn_box (ds := [_, _, _, _]) 4 rfl (kn rfl) rfl rfl agg_76 sz_76 rfl) (w_op rfl rfl rfl (s_buildSlice (ds := [_, _, _, _]) [(0, _)] rfl ⟨rfl, (kn rfl), trivial⟩ rfl sl_24 sz_76 zr_76 (fun w D => .cons (.cell _) (.cons (.cell _) (.cons (.cell _) (.cons (.cell _) (.nil _ _))))) rfl rfl rfl rfl rfl) .nil))))) ?_
 refine e_append rfl rfl rfl rfl (kn rfl) rfl (kn rfl) sl_24 ap_24 rfl rfl (by first | omega | (dsimp only; omega) | omega) (by first | omega | (dsimp only; omega) | omega) ?_
 refine l_op (s_nil_box rfl (kn rfl)) ?_
 refine e_store_own rfl rfl rfl (kn rfl) rfl (kn rfl) rfl rfl sz_24 rfl ?_
 refine e_nil ?_
 try refine e_fl ?_
 refine e_plain (w_as rfl rfl rfl rfl rfl .nil) ?_
 try refine e_fl ?_
 exact e_returnx (mS l ((Msg.mk nm fs os ms es rs ns ln cl).addEnum g) z) (pmR ((Msg.mk nm fs os ms es rs ns ln cl).addEnum g)) rfl (.tmp (kn rfl) (.nil)) (Imp.refl _) ⟨s_b, s_b, trivial⟩ ⟨rfl, rfl, rfl, rowEq rfl (by simp [Msg.addEnum, Msg.enums]) (by simp [Msg.addEnum, Msg.enums, List.flatMap_append, Enm.dats]), rfl, rfl, trivial⟩ (.inr ⟨(Msg.mk nm fs os ms es rs ns ln cl).addEnum g, z, by simp only [withEnm, sEnum_blk, hx, ho], rfl, rfl, rfl⟩)
set_option maxRecDepth 100000 in
set_option maxHeartbeats 1000000 in
theorem enumB_g (E8 E9 : Er) (l : List Tk) (hl : PTk l) (m : Fil) (hm : m.enums.length ≤ 100000000000) (p : Nat) (hp : p ≤ 100000) : EG Tryz.prog (gE E8 E9) 89 [.box 1 0, .box 7 2] (flB l m p) (flR m) (LE l E8 E9 (withEnmF m (sEnum l p))) := by
 refine eg_enter 37 Tryz.func89 rfl rfl rfl fun w D bor mb => ?_
 try refine e_fl ?_
 have hll := hl.len
 refine e_list ?_
 refine e_boxi 4 rfl rfl rfl rfl (kn rfl) rfl rfl rfl rfl rfl ?_
 refine l_as ?_
 refine e_nil ?_
 try refine e_fl ?_
 refine e_list ?_
 refine l_op (s_load1_box rfl (kn rfl) rfl rfl one_123) ?_
 refine e_calli rfl rfl rfl rfl (by kernel_rfl) (token_g E8 E9 l hl.toTksOk (p) 1 (by omega)) ⟨rfl, trivial⟩ trivial ⟨(kn rfl), ⟨(kn rfl), trivial⟩⟩ (TY.tidy) ?_
 rintro _ _ _ (⟨hk, rfl, rfl, rfl⟩ | ⟨hk, rfl, rfl, rfl⟩)
 ·refine l_mv ?_
  refine l_ex ?_
  refine l_ex ?_
  refine e_alloc 5 [.is (.int .i64 0), .is (.string ⟨#[]⟩), .is (.int .i64 0), .is (.int .i64 0), .is (.int .i64 0)] rfl rfl rfl rfl zr_45 (fun w D M V => ⟨rfl, fun j x v h1 h2 => cfit_is _ h1 h2 rfl⟩) rfl rfl rfl rfl ?_
  refine e_storew rfl rfl rfl (kn rfl) rfl (kn rfl) rfl rfl sz_45 ?_
  refine l_as ?_
  refine e_nil ?_
  try refine e_fl ?_
  refine e_plain (w_mv rfl rfl rfl rfl rfl (w_op rfl rfl rfl (s_err_neq rfl (kn rfl) rfl ifc_28) .nil)) ?_
  try refine e_fl ?_
  refine c_yes ?_
  try refine e_fl ?_
  refine e_plain (w_mv rfl rfl rfl rfl rfl (w_as rfl rfl rfl rfl rfl .nil)) ?_
  try refine e_fl ?_
  exact e_returnx (flB l (m) p) (flR (m)) rfl (.tmp (kn rfl) (.nil)) (Imp.refl _) ⟨s_b, s_b, trivial⟩ ⟨rfl, rfl, trivial⟩ (.inl ⟨p, 9, p, _, by simp only [withEnmF, sEnum_blk, name_not hk], rfl, rfl, rfl⟩)
 refine l_mv ?_
 refine l_ex ?_
 refine l_ex ?_
 refine e_alloc 5 [.is (.int .i64 0), .is (.string ⟨#[]⟩), .is (.int .i64 0), .is (.int .i64 0), .is (.int .i64 0)] rfl rfl rfl rfl zr_45 (fun w D M V => ⟨rfl, fun j x v h1 h2 => cfit_is _ h1 h2 rfl⟩) rfl rfl rfl rfl ?_
 refine e_storew rfl rfl rfl (kn rfl) rfl (kn rfl) rfl rfl sz_45 ?_
 refine l_as ?_
 refine e_nil ?_
 try refine e_fl ?_
 refine e_plain (w_mv rfl rfl rfl rfl rfl (w_op rfl rfl rfl (s_nil_neq rfl (kn rfl) ifc_28) .nil)) ?_
 try refine e_fl ?_
 refine c_no ?_
 try refine e_fl ?_
 obtain ⟨hlt0, hx⟩ := name_is hk
 refine e_list ?_
 refine l_op (s_faddr_box rfl (kn rfl) off_45_1) ?_
 refine l_op (s_load1_box rfl (kn rfl) rfl rfl one_9) ?_
 refine l_op (s_faddr_box rfl (kn rfl) off_45_3) ?_
 refine l_op (s_load1_box rfl (kn rfl) rfl rfl one_3) ?_
 refine l_op (s_faddr_box rfl (kn rfl) off_45_4) ?_
 refine l_op (s_load1_box rfl (kn rfl) rfl rfl one_3) ?_
 refine l_op (s_build (ds := [_, _, _, _]) [(0, _), (2, _), (3, _)] rfl ⟨rfl, (kn rfl), ⟨rfl, (kn rfl), ⟨rfl, (kn rfl), trivial⟩⟩⟩ rfl pl_76 zr_76 (fun w D => .cons (.cell _) (.cons (.cell _) (.cons (.cell _) (.cons (.cell _) (.nil _ _))))) rfl) ?_
 refine e_alloc 6 [.is (.string ⟨#[]⟩), .is (.slice none 0 0), .is (.int .i64 0), .is (.int .i64 0)] rfl rfl rfl rfl zr_76 (fun w D M V => ⟨rfl, fun j x v h1 h2 => cfit_is _ h1 h2 rfl⟩) rfl rfl rfl rfl ?_
 refine e_storew rfl rfl rfl (kn rfl) rfl (kn rfl) rfl rfl sz_76 ?_
 refine e_nil ?_
 try refine e_fl ?_
 refine e_row_cell 6 1 300 118 4 rfl rfl rfl rfl rfl ?_
 refine e_list ?_
 refine l_op (s_load1_box rfl (kn rfl) rfl rfl one_123) ?_
 refine l_op (s_func (fs := []) (cs := [.box 4 0, .box 6 0]) rfl trivial ⟨(kn rfl), (kn rfl), trivial⟩) ?_
 refine e_calli rfl rfl rfl rfl (by kernel_rfl) (blkE E8 E9 l hl ⟨(tkAt l p).1.t, [], (tkAt l p).2.1, (tkAt l p).2.2⟩ (p + 1) (by omega) (fun q _ => Nat.zero_le q)) ⟨rfl, rfl, rfl, trivial⟩ ⟨rfl, trivial⟩ ⟨(kn rfl), ⟨(kn rfl), ⟨(kn rfl), trivial⟩⟩⟩ (VE4.tidy) ?_
 rintro _ _ _ (⟨a, b, z, g, he, rfl, rfl, rfl⟩ | ⟨g, z, ho, rfl, rfl, rfl⟩)
 ·refine l_as ?_
  refine e_nil ?_
  try refine e_fl ?_
  refine e_plain (w_mv rfl rfl rfl rfl rfl (w_op rfl rfl rfl (s_err_neq rfl (kn rfl) rfl ifc_28) .nil)) ?_
  try refine e_fl ?_
  refine c_yes ?_
  try refine e_fl ?_
  refine e_plain (w_mv rfl rfl rfl rfl rfl (w_as rfl rfl rfl rfl rfl .nil)) ?_
  try refine e_fl ?_
  exact e_returnx (flB l (m) z) (flR (m)) rfl (.tmp (kn rfl) (.nil)) (Imp.refl _) ⟨s_b, s_b, trivial⟩ ⟨rfl, rfl, trivial⟩ (.inl ⟨a, b, z, _, by simp only [withEnmF, sEnum_blk, hx, he], rfl, rfl, rfl⟩)
 refine l_as ?_
 refine e_nil ?_
 try refine e_fl ?_
 refine e_plain (w_mv rfl rfl rfl rfl rfl (w_op rfl rfl rfl (s_nil_neq rfl (kn rfl) ifc_28) .nil)) ?_
 try refine e_fl ?_
 refine c_no ?_
 try refine e_fl ?_
 refine e_freeze_cell 6 1 300 rfl rfl rfl rfl rfl ?_
 refine e_draw_float 6 mixed (by kernel_rfl) rfl rfl rfl rfl (kn rfl) (fun _ _ _ _ h => h) (w_mv rfl rfl rfl rfl rfl (w_op rfl rfl rfl (s_nil_box rfl (kn rfl)) (w_op rfl rfl rfl (s_load1_box rfl (kn rfl) rfl rfl one_24) (w_op rfl rfl rfl (s_loadn_box (ds := [_, _, _, _]) 4 rfl (kn rfl) rfl rfl agg_76 sz_76 rfl) (w_op rfl rfl rfl (s_buildSlice (ds := [_, _, _, _]) [(0, _)] rfl ⟨rfl, (kn rfl), trivial⟩ rfl sl_24 sz_76 zr_76 (fun w D => .cons (.cell _) (.cons (.cell _) (.cons (.cell _) (.cons (.cell _) (.nil _ _))))) rfl rfl rfl rfl rfl) .nil))))) ?_
 refine e_append rfl rfl rfl rfl (kn rfl) rfl (kn rfl) sl_24 ap_24 rfl rfl (by first | omega | (dsimp only; omega) | omega) (by first | omega | (dsimp only; omega) | omega) ?_
 refine l_op (s_nil_box rfl (kn rfl)) ?_
 refine e_store_own rfl rfl rfl (kn rfl) rfl (kn rfl) rfl rfl sz_24 rfl ?_
 refine e_nil ?_
 try refine e_fl ?_
 refine e_plain (w_as rfl rfl rfl rfl rfl .nil) ?_
 try refine e_fl ?_
 exact e_returnx (flB l ({ m with enums := m.enums ++ [g] }) z) (flR ({ m with enums := m.enums ++ [g] })) rfl (.tmp (kn rfl) (.nil)) (Imp.refl _) ⟨s_b, s_b, trivial⟩ ⟨rfl, rowEq rfl (by simp) (by simp [List.flatMap_append, Enm.dats]), trivial⟩ (.inr ⟨{ m with enums := m.enums ++ [g] }, z, by simp only [withEnmF, sEnum_blk, hx, ho], rfl, rfl, rfl⟩)
end Go.Proofs.YtfcjeciepadmeaaGreatDoor
