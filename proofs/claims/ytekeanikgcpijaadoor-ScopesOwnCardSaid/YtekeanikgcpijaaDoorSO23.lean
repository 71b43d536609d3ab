/- Part 23 of what the last text of this claim is proved by: walks over the program, and the math behind them. Conditions: as each theorem says. -/
import Derived.Test.YtekeanikgcpijaaDoorSO22
import Derived.Test.YtekeanikgcpijaaDoorProg
namespace Go.Proofs.YtekeanikgcpijaaDoor
open Go.RowKit
theorem sBody_blk (l : List Tk) (sub : Nat → Ans8 (Msg × Nat)) (hst : Steps l sub) : ∀ (d n m : Nat) (x : Msg) (c p : Nat), l.length + 1 - p ≤ d → p ≤ l.length → l.length + 1 ≤ n + p → l.length + 1 ≤ m + p → sBody l sub n x p = sBlk l 0 (sPart l sub) m x c p
 | 0, _, _, _, _, p, hd, hp, _, _ => by omega
 | d + 1, 0, _, _, _, p, hd, hp, hn, _ => by omega
 | d + 1, _, 0, _, _, p, hd, hp, _, hm => by omega
 | d + 1, n + 1, m + 1, x, c, p, hd, hp, hn, hm => by
  by_cases hs : tkIs l p 4 [59] = true
  ·have hlt := tkIs_lt hs
   have hc := tkIs_one (t := [125]) hs (by simp) (by simp) (by decide)
   have ih := sBody_blk l sub hst d (n + 1) m x c (p + 1) (by omega) (by omega) (by omega) (by omega)
   rw [sBlk, hc, hs]
   simp only [Bool.not_false, Bool.or_true, Bool.not_true, Bool.false_eq_true, if_false, if_true]
   rw [← ih]
   rw [sBody, sBody, semis_more hs]
  ·have hs' : tkIs l p 4 [59] = false := by simpa using hs
   rw [sBody, sBlk, semis_done hs', hs']
   by_cases hc : tkIs l p 4 [125] = true
   ·rw [hc]
    simp
   ·have hc' : tkIs l p 4 [125] = false := by simpa using hc
    rw [hc']
    simp only [Bool.not_false, Bool.or_true, Bool.not_true, Bool.false_eq_true, if_false]
    cases hv : sPart l sub x p with
    | error e => rfl
    | ok y =>
     obtain ⟨v, q⟩ := y
     have hq := sPart_ok hst hv
     dsimp only
     rcases Nat.eq_zero_or_pos n with h0 | h0
     ·omega
     ·exact sBody_blk l sub hst d n m v (c + 1) q (by omega) (by omega) (by omega) (by omega)
theorem sMessage_blk (l : List Tk) (d p : Nat) : sMessage l (d + 1) p = match sName l p with
 | .error e => .error e
 | .ok (x, q) => sBlock l 0 (sPart l (sMessage l d)) (.mk x.1.t [] [] [] [] [] [] x.2.1 x.2.2) q := by
 rw [sMessage]
 cases hx : sName l p with
 | error e => rfl
 | ok x =>
  obtain ⟨x, q⟩ := x
  dsimp only
  unfold sBlock
  cases hw : sWant l 4 [123] q with
  | error e => rfl
  | ok r =>
   dsimp only
   have hr := sWant_ok hw
   exact sBody_blk l _ (sMessage_ok l d) _ (l.length + 1) (l.length + 1) _ 0 r (Nat.le_refl _) (by omega) (by omega) (by omega)
def withMsgF (f : Fil) (r : Ans8 (Msg × Nat)) : Ans8 (Fil × Nat) :=
 match r with
 | .error e => .error e
 | .ok (g, q) => .ok ({ f with msgs := f.msgs ++ [g] }, q)
abbrev qmX (m : Msg) : Bx := ⟨48, [.is (.string (str m.name)), .own 500, .own 501, .own 502, .own 503, .own 504, .own 505, .is (.int .i64 m.line), .is (.int .i64 m.col)]⟩
abbrev qmR (m : Msg) : RL := [(500, ⟨135, 10, m.fields.length, m.fields.flatMap Fld.dats, false⟩), (501, ⟨9, 1, m.oneofs.length, m.oneofs.flatMap textDats, false⟩), (502, ⟨48, 9, m.msgs.length, m.msgs.flatMap Msg.dats, false⟩), (503, ⟨77, 4, m.enums.length, m.enums.flatMap Enm.dats, false⟩), (504, ⟨144, 2, m.reserved.length, m.reserved.flatMap rangeDats, false⟩), (505, ⟨9, 1, m.names.length, m.names.flatMap textDats, false⟩)]
abbrev qS (l : List Tk) (m : Msg) (q : Nat) : BL := [(1, pX l q), (13, qmX m)]
abbrev QM (l : List Tk) (E8 E9 : Er) (r : Ans8 (Msg × Nat)) (y : IV) (B1 : BL) (R1 : RL) : Prop := ME l E8 E9 (qS l) qmR r y B1 R1
set_option maxRecDepth 100000 in
set_option maxHeartbeats 2000000 in
theorem message_a (E8 E9 : Er) (l : List Tk) (hl : PTk l) (d wi : Nat) (hwd : wi + d = 8) (hin : ∀ d', d = d' + 1 → Within E8 E9 l wi (sMessage l d')) (m : Msg) (hm : Small m 9000000000) (p : Nat) (hp : p ≤ 100000) : EG Tryd.prog (gE E8 E9) 55 [.box 1 0, .box 13 3, .part (iP (wi : Int))] (qS l m p) (qmR m) (QM l E8 E9 (withMsg m (sMessage l d p))) := by
 obtain ⟨nm, fs, os, ms, es, rs, ns, ln, cl⟩ := m
 have hm1 : (Msg.mk nm fs os ms es rs ns ln cl).msgs.length ≤ 9000000000 := hm.2.2.1
 refine eg_enter 55 Tryd.func55 rfl rfl rfl fun w D bor mb => ?_
 try refine e_fl ?_
 have hll := hl.len
 refine e_list ?_
 refine e_boxi 4 rfl rfl rfl rfl (kn rfl) rfl rfl rfl rfl rfl ?_
 refine e_box1 10 rfl rfl rfl rfl (kn rfl) rfl rfl rfl rfl ?_
 refine l_as ?_
 refine e_nil ?_
 try refine e_fl ?_
 refine e_list ?_
 refine l_op (s_load1_box rfl (kn rfl) rfl rfl one_86) ?_
 refine e_calli rfl rfl rfl rfl (by kernel_rfl) (token_g E8 E9 l hl.toTksOk (p) 1 (by omega)) ⟨rfl, trivial⟩ trivial ⟨(kn rfl), ⟨(kn rfl), trivial⟩⟩ (TY.tidy) ?_
 rintro _ _ _ (⟨hk, rfl, rfl, rfl⟩ | ⟨hk, rfl, rfl, rfl⟩)
 ·refine l_mv ?_
  refine l_ex ?_
  refine l_ex ?_
  refine e_alloc 30 [.is (.int .i64 0), .is (.string ⟨#[]⟩), .is (.int .i64 0), .is (.int .i64 0), .is (.int .i64 0)] rfl rfl rfl rfl zr_67 (fun w D M V => ⟨rfl, fun j x v h1 h2 => cfit_is _ h1 h2 rfl⟩) rfl rfl rfl rfl ?_
  refine e_storew rfl rfl rfl (kn rfl) rfl (kn rfl) rfl rfl sz_67 ?_
  refine l_as ?_
  refine e_nil ?_
  try refine e_fl ?_
  refine e_plain (w_mv rfl rfl rfl rfl rfl (w_op rfl rfl rfl (s_err_neq rfl (kn rfl) rfl ifc_30) .nil)) ?_
  try refine e_fl ?_
  refine c_yes ?_
  try refine e_fl ?_
  refine e_plain (w_mv rfl rfl rfl rfl rfl (w_as rfl rfl rfl rfl rfl .nil)) ?_
  try refine e_fl ?_
  exact e_returnx (qS l (Msg.mk nm fs os ms es rs ns ln cl) p) (qmR (Msg.mk nm fs os ms es rs ns ln cl)) rfl (.tmp (kn rfl) (.nil)) (Imp.refl _) ⟨s_b, s_b, trivial⟩ ⟨rfl, rfl, rfl, rfl, rfl, rfl, trivial⟩ (.inl ⟨p, 9, p, _, by cases d <;> simp only [withMsg, sMessage, sMessage_blk, name_not hk], rfl, rfl, rfl⟩)
 refine l_mv ?_
 refine l_ex ?_
 refine l_ex ?_
 refine e_alloc 30 [.is (.int .i64 0), .is (.string ⟨#[]⟩), .is (.int .i64 0), .is (.int .i64 0), .is (.int .i64 0)] rfl rfl rfl rfl zr_67 (fun w D M V => ⟨rfl, fun j x v h1 h2 => cfit_is _ h1 h2 rfl⟩) rfl rfl rfl rfl ?_
 refine e_storew rfl rfl rfl (kn rfl) rfl (kn rfl) rfl rfl sz_67 ?_
 refine l_as ?_
 refine e_nil ?_
 try refine e_fl ?_
 refine e_plain (w_mv rfl rfl rfl rfl rfl (w_op rfl rfl rfl (s_nil_neq rfl (kn rfl) ifc_30) .nil)) ?_
 try refine e_fl ?_
 refine c_no ?_
 try refine e_fl ?_
 obtain ⟨hlt0, hx⟩ := name_is hk
 refine e_plain (w_op rfl rfl rfl (s_load1_box rfl (kn rfl) rfl rfl one_3) (w_op rfl rfl rfl (s_bin rfl (kn rfl) (kn rfl) v_geq) .nil)) ?_
 try refine e_fl ?_
 refine e_cond rfl (fun h => ?_) (fun h => ?_)
 ·have h0 := of_decide_eq_true h
  obtain rfl : d = 0 := by omega
  try refine e_fl ?_
  refine e_plain (w_op rfl rfl rfl (s_loadn_box (ds := [_, _, _, _, _]) 5 rfl (kn rfl) rfl rfl agg_67 sz_67 rfl) (w_op rfl rfl rfl (s_load_gl rfl (kn rfl) List.mem_cons_self one_30) (w_op rfl rfl rfl (s_call rfl (by kernel_rfl) (fault_ef _ l p E8) ⟨(kn rfl), ⟨(kn rfl), trivial⟩⟩) (w_as rfl rfl rfl rfl rfl .nil)))) ?_
  try refine e_fl ?_
  exact e_returnx (qS l (Msg.mk nm fs os ms es rs ns ln cl) (p + 1)) (qmR (Msg.mk nm fs os ms es rs ns ln cl)) rfl (.tmp (kn rfl) (.nil)) (Imp.refl _) ⟨s_b, s_b, trivial⟩ ⟨rfl, rfl, rfl, rfl, rfl, rfl, trivial⟩ (.inl ⟨p, 8, p + 1, _, by simp only [withMsg, sMessage, hx], rfl, rfl, rfl⟩)
 have h0 := of_decide_eq_false h
 obtain ⟨d', rfl⟩ : ∃ d', d = d' + 1 := ⟨d - 1, by omega⟩
 try refine e_fl ?_
 refine e_list ?_
 refine l_op (s_faddr_box rfl (kn rfl) off_67_1) ?_
 refine l_op (s_load1_box rfl (kn rfl) rfl rfl one_9) ?_
 refine l_op (s_faddr_box rfl (kn rfl) off_67_3) ?_
 refine l_op (s_load1_box rfl (kn rfl) rfl rfl one_3) ?_
 refine l_op (s_faddr_box rfl (kn rfl) off_67_4) ?_
 refine l_op (s_load1_box rfl (kn rfl) rfl rfl one_3) ?_
 refine l_op (s_build (ds := [_, _, _, _, _, _, _, _, _]) [(0, _), (7, _), (8, _)] rfl ⟨rfl, (kn rfl), ⟨rfl, (kn rfl), ⟨rfl, (kn rfl), trivial⟩⟩⟩ rfl pl_48 zr_48 (fun w D => .cons (.cell _) (.cons (.cell _) (.cons (.cell _) (.cons (.cell _) (.cons (.cell _) (.cons (.cell _) (.cons (.cell _) (.cons (.cell _) (.cons (.cell _) (.nil _ _)))))))))) rfl) ?_
 refine e_alloc 3 [.is (.string ⟨#[]⟩), .is (.slice none 0 0), .is (.slice none 0 0), .is (.slice none 0 0), .is (.slice none 0 0), .is (.slice none 0 0), .is (.slice none 0 0), .is (.int .i64 0), .is (.int .i64 0)] rfl rfl rfl rfl zr_48 (fun w D M V => ⟨rfl, fun j x v h1 h2 => cfit_is _ h1 h2 rfl⟩) rfl rfl rfl rfl ?_
 refine e_storew rfl rfl rfl (kn rfl) rfl (kn rfl) rfl rfl sz_48 ?_
 refine e_nil ?_
 try refine e_fl ?_
 refine e_row_cell 3 1 100 135 10 rfl rfl rfl rfl rfl ?_
 refine e_row_cell 3 2 101 9 1 rfl rfl rfl rfl rfl ?_
 refine e_row_cell 3 3 102 48 9 rfl rfl rfl rfl rfl ?_
 refine e_row_cell 3 4 103 77 4 rfl rfl rfl rfl rfl ?_
 refine e_row_cell 3 5 104 144 2 rfl rfl rfl rfl rfl ?_
 refine e_row_cell 3 6 105 9 1 rfl rfl rfl rfl rfl ?_
 refine e_list ?_
 refine l_op (s_load1_box rfl (kn rfl) rfl rfl one_86) ?_
 refine l_op (s_func (fs := []) (cs := [.box 4 0, .box 3 0, .box 10 0]) rfl trivial ⟨(kn rfl), (kn rfl), (kn rfl), trivial⟩) ?_
 refine e_calli rfl rfl rfl rfl (by kernel_rfl) (blkM E8 E9 l hl wi (by omega) (sMessage l d') (hin d' rfl) (sMessage_ok l d') (sMessage_fine hl.len d') (.mk (tkAt l p).1.t [] [] [] [] [] [] (tkAt l p).2.1 (tkAt l p).2.2) (p + 1) (by omega) (fun q _ => ⟨⟨Nat.zero_le q, Nat.zero_le q, Nat.zero_le q, Nat.zero_le q, Nat.zero_le q, Nat.zero_le q⟩, fun x h => (by cases h), fun x h => (by cases h)⟩)) ⟨rfl, rfl, rfl, rfl, trivial⟩ ⟨rfl, rfl, rfl, rfl, rfl, rfl, trivial⟩ ⟨(kn rfl), ⟨(kn rfl), ⟨(kn rfl), trivial⟩⟩⟩ (VM.tidy) ?_
 rintro _ _ _ (⟨a, b, z, g, he, rfl, rfl, rfl⟩ | ⟨g, z, ho, rfl, rfl, rfl⟩)
 ·refine l_as ?_
  refine e_nil ?_
  try refine e_fl ?_
  refine e_plain (w_mv rfl rfl rfl rfl rfl (w_op rfl rfl rfl (s_err_neq rfl (kn rfl) rfl ifc_30) .nil)) ?_
  try refine e_fl ?_
  refine c_yes ?_
  try refine e_fl ?_
  refine e_plain (w_mv rfl rfl rfl rfl rfl (w_as rfl rfl rfl rfl rfl .nil)) ?_
  try refine e_fl ?_
  exact e_returnx (qS l (Msg.mk nm fs os ms es rs ns ln cl) z) (qmR (Msg.mk nm fs os ms es rs ns ln cl)) rfl (.tmp (kn rfl) (.nil)) (Imp.refl _) ⟨s_b, s_b, trivial⟩ ⟨rfl, rfl, rfl, rfl, rfl, rfl, trivial⟩ (.inl ⟨a, b, z, _, by simp only [withMsg, sMessage_blk, hx, he], rfl, rfl, rfl⟩)
 refine l_as ?_
 refine e_nil ?_
 try refine e_fl ?_
 refine e_plain (w_mv rfl rfl rfl rfl rfl (w_op rfl rfl rfl (s_nil_neq rfl (kn rfl) ifc_30) .nil)) ?_
 try refine e_fl ?_
 refine c_no ?_
 try refine e_fl ?_
 refine e_freeze_cell 3 1 100 rfl rfl rfl rfl rfl ?_
 refine e_freeze_cell 3 2 101 rfl rfl rfl rfl rfl ?_
 refine e_freeze_cell 3 3 102 rfl rfl rfl rfl rfl ?_
 refine e_freeze_cell 3 4 103 rfl rfl rfl rfl rfl ?_
 refine e_freeze_cell 3 5 104 rfl rfl rfl rfl rfl ?_
 refine e_freeze_cell 3 6 105 rfl rfl rfl rfl rfl ?_
 refine e_coin 31 mixed (by kernel_rfl) (fun _ h => h) rfl rfl rfl rfl zr_4 rfl rfl rfl rfl rfl rfl rfl rfl rfl rfl sz_4 one_4 rfl rfl rfl (fun _ y => ?_)
 try refine e_fl ?_
 refine e_cond rfl (fun h => ?_) (fun h => ?_)
 ·try refine e_fl ?_
  refine e_list ?_
  refine l_mv ?_
  refine l_op (s_nil_box rfl (kn rfl)) ?_
  refine l_op (s_load1_box rfl (kn rfl) rfl rfl one_25) ?_
  refine l_op (s_len_own rfl (kn rfl) rfl sle_25) ?_
  refine l_op (s_buildSlice (ds := [_, _, _, _, _, _, _, _, _]) [(0, _)] rfl ⟨rfl, (kn_many _), trivial⟩ rfl sl_25 sz_48 zr_48 (fun w D => .cons (.cell _) (.cons (.cell _) (.cons (.cell _) (.cons (.cell _) (.cons (.cell _) (.cons (.cell _) (.cons (.cell _) (.cons (.cell _) (.cons (.cell _) (.nil _ _)))))))))) rfl rfl rfl rfl rfl) ?_
  refine e_append rfl rfl rfl rfl (kn rfl) rfl (kn rfl) sl_25 ap_25 rfl rfl (by first | omega | (dsimp only; omega) | omega) (by first | omega | (dsimp only; omega) | omega) ?_
  refine l_op (s_nil_box rfl (kn rfl)) ?_
  refine e_store_own rfl rfl rfl (kn rfl) rfl (kn rfl) rfl rfl sz_25 rfl ?_
  refine e_nil ?_
  try refine e_fl ?_
  refine e_list ?_
  refine l_op (s_loadn_box (ds := [_, _, _, _, _, _, _, _, _]) 9 rfl (kn rfl) rfl rfl agg_48 sz_48 rfl) ?_
  refine e_store_last rfl rfl rfl rfl (kn rfl) rfl rfl (kn rfl) sle_25 esz_25 rfl rfl rfl (kn rfl) rfl rfl sz_48 ?_
  refine e_nil ?_
  try refine e_fl ?_
  refine e_plain (w_as rfl rfl rfl rfl rfl .nil) ?_
  try refine e_fl ?_
  exact e_returnx (qS l ((Msg.mk nm fs os ms es rs ns ln cl).addMsg g) z) (qmR ((Msg.mk nm fs os ms es rs ns ln cl).addMsg g)) rfl (.tmp (kn rfl) (.nil)) (Imp.refl _) ⟨s_b, s_b, trivial⟩ ⟨rfl, rfl, rowEq rfl (by simp [Msg.addMsg, Msg.msgs]) (by simp [Msg.addMsg, Msg.msgs, List.flatMap_append, dats_md g]; rfl), rfl, rfl, rfl, trivial⟩ (.inr ⟨_, z, by simp only [withMsg, sMessage_blk, hx, ho], rfl, rfl, rfl⟩)
 try refine e_fl ?_
 refine e_draw_float 6 mixed (by kernel_rfl) rfl rfl rfl rfl (kn rfl) (fun _ _ _ _ h => h) (w_mv rfl rfl rfl rfl rfl (w_op rfl rfl rfl (s_nil_box rfl (kn rfl)) (w_op rfl rfl rfl (s_load1_box rfl (kn rfl) rfl rfl one_25) (w_op rfl rfl rfl (s_loadn_box (ds := [_, _, _, _, _, _, _, _, _]) 9 rfl (kn rfl) rfl rfl agg_48 sz_48 rfl) (w_op rfl rfl rfl (s_buildSlice (ds := [_, _, _, _, _, _, _, _, _]) [(0, _)] rfl ⟨rfl, (kn rfl), trivial⟩ rfl sl_25 sz_48 zr_48 (fun w D => .cons (.cell _) (.cons (.cell _) (.cons (.cell _) (.cons (.cell _) (.cons (.cell _) (.cons (.cell _) (.cons (.cell _) (.cons (.cell _) (.cons (.cell _) (.nil _ _)))))))))) rfl rfl rfl rfl rfl) .nil))))) ?_
 refine e_append rfl rfl rfl rfl (kn rfl) rfl (kn rfl) sl_25 ap_25 rfl rfl (by first | omega | (dsimp only; omega) | omega) (by first | omega | (dsimp only; omega) | omega) ?_
 refine l_op (s_nil_box rfl (kn rfl)) ?_
 refine e_store_own rfl rfl rfl (kn rfl) rfl (kn rfl) rfl rfl sz_25 rfl ?_
 refine e_nil ?_
 try refine e_fl ?_
 refine e_plain (w_as rfl rfl rfl rfl rfl .nil) ?_
 try refine e_fl ?_
 exact e_returnx (qS l ((Msg.mk nm fs os ms es rs ns ln cl).addMsg g) z) (qmR ((Msg.mk nm fs os ms es rs ns ln cl).addMsg g)) rfl (.tmp (kn rfl) (.nil)) (Imp.refl _) ⟨s_b, s_b, trivial⟩ ⟨rfl, rfl, rowEq rfl (by simp [Msg.addMsg, Msg.msgs]) (by simp [Msg.addMsg, Msg.msgs, List.flatMap_append, dats_md g]; rfl), rfl, rfl, rfl, trivial⟩ (.inr ⟨_, z, by simp only [withMsg, sMessage_blk, hx, ho], rfl, rfl, rfl⟩)
def ρq (b : Nat) : Nat := bif Nat.beq b 13 then 3 else b
def σq (r : Nat) : Nat := bif Nat.ble 500 r then r - 400 else r
theorem apρ : Apart ρq [1, 13] := show ∀ a ∈ [1, 13], ∀ b ∈ [1, 13], ρq a = ρq b → a = b by decide
theorem apσ : Apart σq [500, 501, 502, 503, 504, 505] := show ∀ a ∈ [500, 501, 502, 503, 504, 505], ∀ b ∈ [500, 501, 502, 503, 504, 505], σq a = σq b → a = b by decide
theorem QM.tidy {l : List Tk} {E8 E9 : Er} {r : Ans8 (Msg × Nat)} {m : Msg} {q : Nat} (y : IV) (B1 : BL) (R1 : RL) (h : QM l E8 E9 r y B1 R1) : Tidy (qS l m q) (qmR m) y B1 R1 := by
 rcases h with ⟨a, b, z, x, _, rfl, rfl, rfl⟩ | ⟨x, z, _, rfl, rfl, rfl⟩ <;> exact ⟨rfl, rfl, rfl, rfl⟩
set_option maxRecDepth 100000 in
theorem within_all (E8 E9 : Er) (l : List Tk) (hl : PTk l) : ∀ d wi, wi + 1 + d = 8 → Within E8 E9 l wi (sMessage l d) := by
 intro d
 induction d with
 | zero =>
  intro wi hwi m p hm hp
  have h := message_a E8 E9 l hl 0 (wi + 1) hwi (fun d' hd => by omega) m hm p hp
  rw [show (((wi + 1 : Nat)) : Int) = (wi : Int) + 1 by omega] at h
  refine eg_ren ρq σq h rfl ⟨rfl, rfl, trivial⟩ ⟨rfl, rfl, rfl, rfl, rfl, rfl, trivial⟩ apρ apσ QM.tidy fun y B1 R1 hy => ?_
  rcases hy with ⟨a, b, z, x, he, rfl, rfl, rfl⟩ | ⟨x, z, ho, rfl, rfl, rfl⟩
  ·exact ⟨_, mS l x z, pmR x, .inl ⟨a, b, z, x, he, rfl, rfl, rfl⟩, Imp.refl _, ⟨s_b, s_b, trivial⟩, ⟨rfl, rfl, rfl, rfl, rfl, rfl, trivial⟩⟩
  ·exact ⟨_, mS l x z, pmR x, .inr ⟨x, z, ho, rfl, rfl, rfl⟩, Imp.refl _, ⟨s_b, s_b, trivial⟩, ⟨rfl, rfl, rfl, rfl, rfl, rfl, trivial⟩⟩
 | succ d ih =>
  intro wi hwi m p hm hp
  have h := message_a E8 E9 l hl (d + 1) (wi + 1) hwi (fun d' hd => by
   obtain rfl : d' = d := by omega
   exact ih (wi + 1) (by omega)) m hm p hp
  rw [show (((wi + 1 : Nat)) : Int) = (wi : Int) + 1 by omega] at h
  refine eg_ren ρq σq h rfl ⟨rfl, rfl, trivial⟩ ⟨rfl, rfl, rfl, rfl, rfl, rfl, trivial⟩ apρ apσ QM.tidy fun y B1 R1 hy => ?_
  rcases hy with ⟨a, b, z, x, he, rfl, rfl, rfl⟩ | ⟨x, z, ho, rfl, rfl, rfl⟩
  ·exact ⟨_, mS l x z, pmR x, .inl ⟨a, b, z, x, he, rfl, rfl, rfl⟩, Imp.refl _, ⟨s_b, s_b, trivial⟩, ⟨rfl, rfl, rfl, rfl, rfl, rfl, trivial⟩⟩
  ·exact ⟨_, mS l x z, pmR x, .inr ⟨x, z, ho, rfl, rfl, rfl⟩, Imp.refl _, ⟨s_b, s_b, trivial⟩, ⟨rfl, rfl, rfl, rfl, rfl, rfl, trivial⟩⟩
set_option maxRecDepth 100000 in
set_option maxHeartbeats 2000000 in
theorem message_f (E8 E9 : Er) (l : List Tk) (hl : PTk l) (f : Fil) (hf : f.msgs.length ≤ 100000000000) (p : Nat) (hp : p ≤ 100000) : EG Tryd.prog (gE E8 E9) 55 [.box 1 0, .box 7 1, .part (iP 0)] (flB l f p) (flR f) (LE l E8 E9 (withMsgF f (sMessage l 8 p))) := by
 obtain ⟨d, hd⟩ : ∃ d, d = 8 := ⟨_, rfl⟩
 obtain ⟨wi, hwi⟩ : ∃ wi, wi = 0 := ⟨_, rfl⟩
 have hwd : wi + d = 8 := by omega
 rw [← hd, show (0 : Int) = (wi : Int) by omega]
 have hin : ∀ d', d = d' + 1 → Within E8 E9 l wi (sMessage l d') := fun d' h => within_all E8 E9 l hl d' wi (by omega)
 refine eg_enter 55 Tryd.func55 rfl rfl rfl fun w D bor mb => ?_
 try refine e_fl ?_
 have hll := hl.len
 refine e_list ?_
 refine e_boxi 4 rfl rfl rfl rfl (kn rfl) rfl rfl rfl rfl rfl ?_
 refine e_box1 10 rfl rfl rfl rfl (kn rfl) rfl rfl rfl rfl ?_
 refine l_as ?_
 refine e_nil ?_
 try refine e_fl ?_
 refine e_list ?_
 refine l_op (s_load1_box rfl (kn rfl) rfl rfl one_86) ?_
 refine e_calli rfl rfl rfl rfl (by kernel_rfl) (token_g E8 E9 l hl.toTksOk (p) 1 (by omega)) ⟨rfl, trivial⟩ trivial ⟨(kn rfl), ⟨(kn rfl), trivial⟩⟩ (TY.tidy) ?_
 rintro _ _ _ (⟨hk, rfl, rfl, rfl⟩ | ⟨hk, rfl, rfl, rfl⟩)
 ·refine l_mv ?_
  refine l_ex ?_
  refine l_ex ?_
  refine e_alloc 30 [.is (.int .i64 0), .is (.string ⟨#[]⟩), .is (.int .i64 0), .is (.int .i64 0), .is (.int .i64 0)] rfl rfl rfl rfl zr_67 (fun w D M V => ⟨rfl, fun j x v h1 h2 => cfit_is _ h1 h2 rfl⟩) rfl rfl rfl rfl ?_
  refine e_storew rfl rfl rfl (kn rfl) rfl (kn rfl) rfl rfl sz_67 ?_
  refine l_as ?_
  refine e_nil ?_
  try refine e_fl ?_
  refine e_plain (w_mv rfl rfl rfl rfl rfl (w_op rfl rfl rfl (s_err_neq rfl (kn rfl) rfl ifc_30) .nil)) ?_
  try refine e_fl ?_
  refine c_yes ?_
  try refine e_fl ?_
  refine e_plain (w_mv rfl rfl rfl rfl rfl (w_as rfl rfl rfl rfl rfl .nil)) ?_
  try refine e_fl ?_
  exact e_returnx (flB l f p) (flR f) rfl (.tmp (kn rfl) (.nil)) (Imp.refl _) ⟨s_b, s_b, trivial⟩ ⟨rfl, rfl, trivial⟩ (.inl ⟨p, 9, p, _, by cases d <;> simp only [withMsgF, sMessage, sMessage_blk, name_not hk], rfl, rfl, rfl⟩)
 refine l_mv ?_
 refine l_ex ?_
 refine l_ex ?_
 refine e_alloc 30 [.is (.int .i64 0), .is (.string ⟨#[]⟩), .is (.int .i64 0), .is (.int .i64 0), .is (.int .i64 0)] rfl rfl rfl rfl zr_67 (fun w D M V => ⟨rfl, fun j x v h1 h2 => cfit_is _ h1 h2 rfl⟩) rfl rfl rfl rfl ?_
 refine e_storew rfl rfl rfl (kn rfl) rfl (kn rfl) rfl rfl sz_67 ?_
 refine l_as ?_
 refine e_nil ?_
 try refine e_fl ?_
 refine e_plain (w_mv rfl rfl rfl rfl rfl (w_op rfl rfl rfl (s_nil_neq rfl (kn rfl) ifc_30) .nil)) ?_
 try refine e_fl ?_
 refine c_no ?_
 try refine e_fl ?_
 obtain ⟨hlt0, hx⟩ := name_is hk
 refine e_plain (w_op rfl rfl rfl (s_load1_box rfl (kn rfl) rfl rfl one_3) (w_op rfl rfl rfl (s_bin rfl (kn rfl) (kn rfl) v_geq) .nil)) ?_
 try refine e_fl ?_
 refine e_cond rfl (fun h => ?_) (fun h => ?_)
 ·have h0 := of_decide_eq_true h
  obtain rfl : d = 0 := by omega
  try refine e_fl ?_
  refine e_plain (w_op rfl rfl rfl (s_loadn_box (ds := [_, _, _, _, _]) 5 rfl (kn rfl) rfl rfl agg_67 sz_67 rfl) (w_op rfl rfl rfl (s_load_gl rfl (kn rfl) List.mem_cons_self one_30) (w_op rfl rfl rfl (s_call rfl (by kernel_rfl) (fault_ef _ l p E8) ⟨(kn rfl), ⟨(kn rfl), trivial⟩⟩) (w_as rfl rfl rfl rfl rfl .nil)))) ?_
  try refine e_fl ?_
  exact e_returnx (flB l f (p + 1)) (flR f) rfl (.tmp (kn rfl) (.nil)) (Imp.refl _) ⟨s_b, s_b, trivial⟩ ⟨rfl, rfl, trivial⟩ (.inl ⟨p, 8, p + 1, _, by simp only [withMsgF, sMessage, hx], rfl, rfl, rfl⟩)
 have h0 := of_decide_eq_false h
 obtain ⟨d', rfl⟩ : ∃ d', d = d' + 1 := ⟨d - 1, by omega⟩
 try refine e_fl ?_
 refine e_list ?_
 refine l_op (s_faddr_box rfl (kn rfl) off_67_1) ?_
 refine l_op (s_load1_box rfl (kn rfl) rfl rfl one_9) ?_
 refine l_op (s_faddr_box rfl (kn rfl) off_67_3) ?_
 refine l_op (s_load1_box rfl (kn rfl) rfl rfl one_3) ?_
 refine l_op (s_faddr_box rfl (kn rfl) off_67_4) ?_
 refine l_op (s_load1_box rfl (kn rfl) rfl rfl one_3) ?_
 refine l_op (s_build (ds := [_, _, _, _, _, _, _, _, _]) [(0, _), (7, _), (8, _)] rfl ⟨rfl, (kn rfl), ⟨rfl, (kn rfl), ⟨rfl, (kn rfl), trivial⟩⟩⟩ rfl pl_48 zr_48 (fun w D => .cons (.cell _) (.cons (.cell _) (.cons (.cell _) (.cons (.cell _) (.cons (.cell _) (.cons (.cell _) (.cons (.cell _) (.cons (.cell _) (.cons (.cell _) (.nil _ _)))))))))) rfl) ?_
 refine e_alloc 3 [.is (.string ⟨#[]⟩), .is (.slice none 0 0), .is (.slice none 0 0), .is (.slice none 0 0), .is (.slice none 0 0), .is (.slice none 0 0), .is (.slice none 0 0), .is (.int .i64 0), .is (.int .i64 0)] rfl rfl rfl rfl zr_48 (fun w D M V => ⟨rfl, fun j x v h1 h2 => cfit_is _ h1 h2 rfl⟩) rfl rfl rfl rfl ?_
 refine e_storew rfl rfl rfl (kn rfl) rfl (kn rfl) rfl rfl sz_48 ?_
 refine e_nil ?_
 try refine e_fl ?_
 refine e_row_cell 3 1 100 135 10 rfl rfl rfl rfl rfl ?_
 refine e_row_cell 3 2 101 9 1 rfl rfl rfl rfl rfl ?_
 refine e_row_cell 3 3 102 48 9 rfl rfl rfl rfl rfl ?_
 refine e_row_cell 3 4 103 77 4 rfl rfl rfl rfl rfl ?_
 refine e_row_cell 3 5 104 144 2 rfl rfl rfl rfl rfl ?_
 refine e_row_cell 3 6 105 9 1 rfl rfl rfl rfl rfl ?_
 refine e_list ?_
 refine l_op (s_load1_box rfl (kn rfl) rfl rfl one_86) ?_
 refine l_op (s_func (fs := []) (cs := [.box 4 0, .box 3 0, .box 10 0]) rfl trivial ⟨(kn rfl), (kn rfl), (kn rfl), trivial⟩) ?_
 refine e_calli rfl rfl rfl rfl (by kernel_rfl) (blkM E8 E9 l hl wi (by omega) (sMessage l d') (hin d' rfl) (sMessage_ok l d') (sMessage_fine hl.len d') (.mk (tkAt l p).1.t [] [] [] [] [] [] (tkAt l p).2.1 (tkAt l p).2.2) (p + 1) (by omega) (fun q _ => ⟨⟨Nat.zero_le q, Nat.zero_le q, Nat.zero_le q, Nat.zero_le q, Nat.zero_le q, Nat.zero_le q⟩, fun x h => (by cases h), fun x h => (by cases h)⟩)) ⟨rfl, rfl, rfl, rfl, trivial⟩ ⟨rfl, rfl, rfl, rfl, rfl, rfl, trivial⟩ ⟨(kn rfl), ⟨(kn rfl), ⟨(kn rfl), trivial⟩⟩⟩ (VM.tidy) ?_
 rintro _ _ _ (⟨a, b, z, g, he, rfl, rfl, rfl⟩ | ⟨g, z, ho, rfl, rfl, rfl⟩)
 ·refine l_as ?_
  refine e_nil ?_
  try refine e_fl ?_
  refine e_plain (w_mv rfl rfl rfl rfl rfl (w_op rfl rfl rfl (s_err_neq rfl (kn rfl) rfl ifc_30) .nil)) ?_
  try refine e_fl ?_
  refine c_yes ?_
  try refine e_fl ?_
  refine e_plain (w_mv rfl rfl rfl rfl rfl (w_as rfl rfl rfl rfl rfl .nil)) ?_
  try refine e_fl ?_
  exact e_returnx (flB l f z) (flR f) rfl (.tmp (kn rfl) (.nil)) (Imp.refl _) ⟨s_b, s_b, trivial⟩ ⟨rfl, rfl, trivial⟩ (.inl ⟨a, b, z, _, by simp only [withMsgF, sMessage_blk, hx, he], rfl, rfl, rfl⟩)
 refine l_as ?_
 refine e_nil ?_
 try refine e_fl ?_
 refine e_plain (w_mv rfl rfl rfl rfl rfl (w_op rfl rfl rfl (s_nil_neq rfl (kn rfl) ifc_30) .nil)) ?_
 try refine e_fl ?_
 refine c_no ?_
 try refine e_fl ?_
 refine e_freeze_cell 3 1 100 rfl rfl rfl rfl rfl ?_
 refine e_freeze_cell 3 2 101 rfl rfl rfl rfl rfl ?_
 refine e_freeze_cell 3 3 102 rfl rfl rfl rfl rfl ?_
 refine e_freeze_cell 3 4 103 rfl rfl rfl rfl rfl ?_
 refine e_freeze_cell 3 5 104 rfl rfl rfl rfl rfl ?_
 refine e_freeze_cell 3 6 105 rfl rfl rfl rfl rfl ?_
 refine e_coin 31 mixed (by kernel_rfl) (fun _ h => h) rfl rfl rfl rfl zr_4 rfl rfl rfl rfl rfl rfl rfl rfl rfl rfl sz_4 one_4 rfl rfl rfl (fun _ y => ?_)
 try refine e_fl ?_
 refine e_cond rfl (fun h => ?_) (fun h => ?_)
 ·try refine e_fl ?_
  refine e_list ?_
  refine l_mv ?_
  refine l_op (s_nil_box rfl (kn rfl)) ?_
  refine l_op (s_load1_box rfl (kn rfl) rfl rfl one_25) ?_
  refine l_op (s_len_own rfl (kn rfl) rfl sle_25) ?_
  refine l_op (s_buildSlice (ds := [_, _, _, _, _, _, _, _, _]) [(0, _)] rfl ⟨rfl, (kn_many _), trivial⟩ rfl sl_25 sz_48 zr_48 (fun w D => .cons (.cell _) (.cons (.cell _) (.cons (.cell _) (.cons (.cell _) (.cons (.cell _) (.cons (.cell _) (.cons (.cell _) (.cons (.cell _) (.cons (.cell _) (.nil _ _)))))))))) rfl rfl rfl rfl rfl) ?_
  refine e_append rfl rfl rfl rfl (kn rfl) rfl (kn rfl) sl_25 ap_25 rfl rfl (by first | omega | (dsimp only; omega) | omega) (by first | omega | (dsimp only; omega) | omega) ?_
  refine l_op (s_nil_box rfl (kn rfl)) ?_
  refine e_store_own rfl rfl rfl (kn rfl) rfl (kn rfl) rfl rfl sz_25 rfl ?_
  refine e_nil ?_
  try refine e_fl ?_
  refine e_list ?_
  refine l_op (s_loadn_box (ds := [_, _, _, _, _, _, _, _, _]) 9 rfl (kn rfl) rfl rfl agg_48 sz_48 rfl) ?_
  refine e_store_last rfl rfl rfl rfl (kn rfl) rfl rfl (kn rfl) sle_25 esz_25 rfl rfl rfl (kn rfl) rfl rfl sz_48 ?_
  refine e_nil ?_
  try refine e_fl ?_
  refine e_plain (w_as rfl rfl rfl rfl rfl .nil) ?_
  try refine e_fl ?_
  exact e_returnx (flB l { f with msgs := f.msgs ++ [g] } z) (flR { f with msgs := f.msgs ++ [g] }) rfl (.tmp (kn rfl) (.nil)) (Imp.refl _) ⟨s_b, s_b, trivial⟩ ⟨rowEq rfl (by simp) (by simp [List.flatMap_append, dats_md g]; rfl), rfl, trivial⟩ (.inr ⟨_, z, by simp only [withMsgF, sMessage_blk, hx, ho], rfl, rfl, rfl⟩)
 try refine e_fl ?_
 refine e_draw_float 6 mixed (by kernel_rfl) rfl rfl rfl rfl (kn rfl) (fun _ _ _ _ h => h) (w_mv rfl rfl rfl rfl rfl (w_op rfl rfl rfl (s_nil_box rfl (kn rfl)) (w_op rfl rfl rfl (s_load1_box rfl (kn rfl) rfl rfl one_25) (w_op rfl rfl rfl (s_loadn_box (ds := [_, _, _, _, _, _, _, _, _]) 9 rfl (kn rfl) rfl rfl agg_48 sz_48 rfl) (w_op rfl rfl rfl (s_buildSlice (ds := [_, _, _, _, _, _, _, _, _]) [(0, _)] rfl ⟨rfl, (kn rfl), trivial⟩ rfl sl_25 sz_48 zr_48 (fun w D => .cons (.cell _) (.cons (.cell _) (.cons (.cell _) (.cons (.cell _) (.cons (.cell _) (.cons (.cell _) (.cons (.cell _) (.cons (.cell _) (.cons (.cell _) (.nil _ _)))))))))) rfl rfl rfl rfl rfl) .nil))))) ?_
 refine e_append rfl rfl rfl rfl (kn rfl) rfl (kn rfl) sl_25 ap_25 rfl rfl (by first | omega | (dsimp only; omega) | omega) (by first | omega | (dsimp only; omega) | omega) ?_
 refine l_op (s_nil_box rfl (kn rfl)) ?_
 refine e_store_own rfl rfl rfl (kn rfl) rfl (kn rfl) rfl rfl sz_25 rfl ?_
 refine e_nil ?_
 try refine e_fl ?_
 refine e_plain (w_as rfl rfl rfl rfl rfl .nil) ?_
 try refine e_fl ?_
 exact e_returnx (flB l { f with msgs := f.msgs ++ [g] } z) (flR { f with msgs := f.msgs ++ [g] }) rfl (.tmp (kn rfl) (.nil)) (Imp.refl _) ⟨s_b, s_b, trivial⟩ ⟨rowEq rfl (by simp) (by simp [List.flatMap_append, dats_md g]; rfl), rfl, trivial⟩ (.inr ⟨_, z, by simp only [withMsgF, sMessage_blk, hx, ho], rfl, rfl, rfl⟩)
end Go.Proofs.YtekeanikgcpijaaDoor
namespace Go.Proofs.YtekeanikgcpijaaDoor
open Go.RowKit
def sDecl (l : List Tk) (f : Fil) (p : Nat) : Ans8 (Fil × Nat) :=
 if tkIs l p 4 [59] then .ok (f, p + 1)
 else if tkIs l p 1 [109, 101, 115, 115, 97, 103, 101] then withMsgF f (sMessage l 8 (p + 1))
 else if tkIs l p 1 [101, 110, 117, 109] then withEnmF f (sEnum l (p + 1))
 else .error (p, 9)
theorem sParts_decl (l : List Tk) (n : Nat) (f : Fil) (p : Nat) : sParts l (n + 1) f p = if p < l.length then (match sDecl l f p with | .error e => .error e | .ok (g, q) => sParts l n g q) else .ok f := by
 rw [sParts]
 split
 ·unfold sDecl
  split
  ·rfl
  split
  ·unfold withMsgF
   cases sMessage l 8 (p + 1) with
   | error e => rfl
   | ok x => rfl
  split
  ·unfold withEnmF
   cases sEnum l (p + 1) with
   | error e => rfl
   | ok x => rfl
  ·rfl
 ·rfl
theorem sDecl_ok {l : List Tk} {f g : Fil} {p q : Nat} (h : sDecl l f p = .ok (g, q)) : p < q ∧ q ≤ l.length ∧ g.msgs.length ≤ f.msgs.length + 1 ∧ g.enums.length ≤ f.enums.length + 1 ∧ g.package = f.package := by
 unfold sDecl at h
 split at h
 ·rename_i hs
  have := tkIs_lt hs
  injection h with h
  injection h with h1 h2
  subst h1 h2
  exact ⟨by omega, by omega, by omega, by omega, rfl⟩
 split at h
 ·unfold withMsgF at h
  split at h
  ·cases h
  ·rename_i x r hx
   have := sMessage_ok l 8 _ _ _ hx
   injection h with h
   injection h with h1 h2
   subst h1 h2
   exact ⟨by omega, by omega, by simp, by simp, rfl⟩
 split at h
 ·unfold withEnmF at h
  split at h
  ·cases h
  ·rename_i x r hx
   have := sEnum_ok hx
   injection h with h
   injection h with h1 h2
   subst h1 h2
   exact ⟨by omega, by omega, by simp, by simp, rfl⟩
 ·cases h
set_option maxRecDepth 100000 in
theorem declaration_g (E8 E9 : Er) (l : List Tk) (hl : PTk l) (f : Fil) (hf1 : f.msgs.length ≤ 100000000000) (hf2 : f.enums.length ≤ 100000000000) (p : Nat) (hp : p ≤ 100000) : EG Tryd.prog (gE E8 E9) 32 [.box 1 0, .box 7 0] (flB l f p) (flR f) (LE l E8 E9 (sDecl l f p)) := by
 refine eg_enter 29 Tryd.func32 rfl rfl rfl fun w D bor mb => ?_
 try refine e_fl ?_
 have hll := hl.len
 refine e_plain (w_as rfl rfl rfl rfl rfl .nil) ?_
 try refine e_fl ?_
 refine e_list ?_
 refine l_mv ?_
 refine l_op (s_buildSlice (ds := [_]) [(0, _)] rfl ⟨rfl, (kn rfl), trivial⟩ rfl sl_45 sz_9 zr_9 (fun w D => .cons (.cell _) (.nil _ _)) rfl rfl rfl rfl rfl) ?_
 refine e_calli rfl rfl rfl rfl (by kernel_rfl) (take1 _ l hl [59] 4 rfl (by decide) p (by omega)) ⟨rfl, trivial⟩ trivial ⟨(kn rfl), ⟨(kn rfl), trivial⟩⟩ (fun _ _ _ h => PY.tidy h.1 h.2.1 h.2.2) ?_
 rintro _ _ _ ⟨rfl, rfl, rfl⟩
 refine l_as ?_
 refine e_nil ?_
 try refine e_fl ?_
 refine e_cond rfl (fun h0 => ?_) (fun h0 => ?_)
 ·rw [h0]
  try refine e_fl ?_
  refine e_plain (w_as rfl rfl rfl rfl rfl .nil) ?_
  try refine e_fl ?_
  exact e_returnx (flB l f (p + 1)) (flR f) rfl (.tmp (kn rfl) (.nil)) (Imp.refl _) ⟨s_b, s_b, trivial⟩ ⟨rfl, rfl, trivial⟩ (.inr ⟨f, p + 1, by simp [sDecl, h0], rfl, rfl, rfl⟩)
 rw [h0]
 try refine e_fl ?_
 refine e_list ?_
 refine l_mv ?_
 refine l_op (s_buildSlice (ds := [_]) [(0, _)] rfl ⟨rfl, (kn rfl), trivial⟩ rfl sl_45 sz_9 zr_9 (fun w D => .cons (.cell _) (.nil _ _)) rfl rfl rfl rfl rfl) ?_
 refine e_calli rfl rfl rfl rfl (by kernel_rfl) (take1 _ l hl [109, 101, 115, 115, 97, 103, 101] 1 rfl (by decide) p (by omega)) ⟨rfl, trivial⟩ trivial ⟨(kn rfl), ⟨(kn rfl), trivial⟩⟩ (fun _ _ _ h => PY.tidy h.1 h.2.1 h.2.2) ?_
 rintro _ _ _ ⟨rfl, rfl, rfl⟩
 refine l_as ?_
 refine e_nil ?_
 try refine e_fl ?_
 refine e_cond rfl (fun h1 => ?_) (fun h1 => ?_)
 ·have hlt := tkIs_lt h1
  rw [h1]
  try refine e_fl ?_
  refine e_list ?_
  refine l_mv ?_
  refine l_mv ?_
  refine l_op (s_nil_box rfl (kn rfl)) ?_
  refine l_op (s_faddr_box rfl (kn rfl) off_28_1) ?_
  refine e_calli rfl rfl rfl rfl (by kernel_rfl) (message_f E8 E9 l hl f hf1 (p + 1) (by omega)) ⟨rfl, rfl, trivial⟩ ⟨rfl, rfl, trivial⟩ ⟨(kn rfl), ⟨(kn rfl), ⟨(kn rfl), trivial⟩⟩⟩ (LE.tidy) ?_
  rintro _ _ _ (⟨a, b, z, g, he, rfl, rfl, rfl⟩ | ⟨g, z, ho, rfl, rfl, rfl⟩)
  ·refine l_as ?_
   refine e_nil ?_
   try refine e_fl ?_
   exact e_returnx (flB l g z) (flR g) rfl (.tmp (kn rfl) (.nil)) (Imp.refl _) ⟨s_b, s_b, trivial⟩ ⟨rfl, rfl, trivial⟩ (.inl ⟨a, b, z, g, by rw [← he]; simp [sDecl, h0, h1], rfl, rfl, rfl⟩)
  refine l_as ?_
  refine e_nil ?_
  try refine e_fl ?_
  exact e_returnx (flB l g z) (flR g) rfl (.tmp (kn rfl) (.nil)) (Imp.refl _) ⟨s_b, s_b, trivial⟩ ⟨rfl, rfl, trivial⟩ (.inr ⟨g, z, by rw [← ho]; simp [sDecl, h0, h1], rfl, rfl, rfl⟩)
 rw [h1]
 try refine e_fl ?_
 refine e_list ?_
 refine l_mv ?_
 refine l_op (s_buildSlice (ds := [_]) [(0, _)] rfl ⟨rfl, (kn rfl), trivial⟩ rfl sl_45 sz_9 zr_9 (fun w D => .cons (.cell _) (.nil _ _)) rfl rfl rfl rfl rfl) ?_
 refine e_calli rfl rfl rfl rfl (by kernel_rfl) (take1 _ l hl [101, 110, 117, 109] 1 rfl (by decide) p (by omega)) ⟨rfl, trivial⟩ trivial ⟨(kn rfl), ⟨(kn rfl), trivial⟩⟩ (fun _ _ _ h => PY.tidy h.1 h.2.1 h.2.2) ?_
 rintro _ _ _ ⟨rfl, rfl, rfl⟩
 refine l_as ?_
 refine e_nil ?_
 try refine e_fl ?_
 refine e_cond rfl (fun h2 => ?_) (fun h2 => ?_)
 ·have hlt := tkIs_lt h2
  rw [h2]
  try refine e_fl ?_
  refine e_list ?_
  refine l_mv ?_
  refine l_mv ?_
  refine l_op (s_nil_box rfl (kn rfl)) ?_
  refine l_op (s_faddr_box rfl (kn rfl) off_28_2) ?_
  refine e_calli rfl rfl rfl rfl (by kernel_rfl) (enumB_g E8 E9 l hl f hf2 (p + 1) (by omega)) ⟨rfl, rfl, trivial⟩ ⟨rfl, rfl, trivial⟩ ⟨(kn rfl), ⟨(kn rfl), trivial⟩⟩ (LE.tidy) ?_
  rintro _ _ _ (⟨a, b, z, g, he, rfl, rfl, rfl⟩ | ⟨g, z, ho, rfl, rfl, rfl⟩)
  ·refine l_as ?_
   refine e_nil ?_
   try refine e_fl ?_
   exact e_returnx (flB l g z) (flR g) rfl (.tmp (kn rfl) (.nil)) (Imp.refl _) ⟨s_b, s_b, trivial⟩ ⟨rfl, rfl, trivial⟩ (.inl ⟨a, b, z, g, by rw [← he]; simp [sDecl, h0, h1, h2], rfl, rfl, rfl⟩)
  refine l_as ?_
  refine e_nil ?_
  try refine e_fl ?_
  exact e_returnx (flB l g z) (flR g) rfl (.tmp (kn rfl) (.nil)) (Imp.refl _) ⟨s_b, s_b, trivial⟩ ⟨rfl, rfl, trivial⟩ (.inr ⟨g, z, by rw [← ho]; simp [sDecl, h0, h1, h2], rfl, rfl, rfl⟩)
 rw [h2]
 try refine e_fl ?_
 refine e_list ?_
 refine l_mv ?_
 refine e_calli rfl rfl rfl rfl (by kernel_rfl) (misfit_g E8 E9 l hl.toTksOk p (by omega)) ⟨rfl, trivial⟩ trivial ⟨(kn rfl), trivial⟩ (fun _ _ _ h => PY.tidy h.1 h.2.1 h.2.2) ?_
 rintro _ _ _ ⟨rfl, rfl, rfl⟩
 refine l_as ?_
 refine e_nil ?_
 try refine e_fl ?_
 exact e_returnx (flB l f p) (flR f) rfl (.tmp (kn rfl) (.nil)) (Imp.refl _) ⟨s_b, s_b, trivial⟩ ⟨rfl, rfl, trivial⟩ (.inl ⟨p, 9, p, f, by simp [sDecl, h0, h1, h2], rfl, rfl, rfl⟩)
end Go.Proofs.YtekeanikgcpijaaDoor
