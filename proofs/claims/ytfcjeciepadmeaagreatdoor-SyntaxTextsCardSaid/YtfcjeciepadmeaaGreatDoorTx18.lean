/- Part 18 of what the last text of this claim is proved by: walks over the program, and the math behind them. Conditions: as each theorem says. -/
import Derived.Test.YtfcjeciepadmeaaGreatDoorTx17
import Derived.Test.YtfcjeciepadmeaaGreatDoorProg
namespace Go.Proofs.YtfcjeciepadmeaaGreatDoor
open Go.RowKit
def Msg.name : Msg → List UInt8
 | .mk x _ _ _ _ _ _ _ _ => x
def Msg.fields : Msg → List Fld
 | .mk _ x _ _ _ _ _ _ _ => x
def Msg.msgs : Msg → List Msg
 | .mk _ _ _ x _ _ _ _ _ => x
def Msg.enums : Msg → List Enm
 | .mk _ _ _ _ x _ _ _ _ => x
def Msg.reserved : Msg → List (Int × Int)
 | .mk _ _ _ _ _ x _ _ _ => x
def Msg.names : Msg → List (List UInt8)
 | .mk _ _ _ _ _ _ x _ _ => x
def Msg.line : Msg → Int
 | .mk _ _ _ _ _ _ _ x _ => x
def Msg.col : Msg → Int
 | .mk _ _ _ _ _ _ _ _ x => x
def md (m : Msg) : List Dat := [.cell (.string (str m.name)), .row 10 m.fields.length (m.fields.flatMap Fld.dats), .row 1 m.oneofs.length (m.oneofs.flatMap textDats), .row 9 m.msgs.length (m.msgs.flatMap Msg.dats), .row 4 m.enums.length (m.enums.flatMap Enm.dats), .row 2 m.reserved.length (m.reserved.flatMap rangeDats), .row 1 m.names.length (m.names.flatMap textDats), .cell (.int .i64 m.line), .cell (.int .i64 m.col)]
theorem dats_md (m : Msg) : m.dats = md m := by
 cases m
 exact Msg.dats_mk _ _ _ _ _ _ _ _ _
abbrev mQ (m : Msg) : List Part := [.many (md m)]
def Small (m : Msg) (z : Nat) : Prop := m.fields.length ≤ z ∧ m.oneofs.length ≤ z ∧ m.msgs.length ≤ z ∧ m.enums.length ≤ z ∧ m.reserved.length ≤ z ∧ m.names.length ≤ z
theorem Small.mono {m : Msg} {y z : Nat} (h : Small m y) (hz : y ≤ z) : Small m z := ⟨Nat.le_trans h.1 hz, Nat.le_trans h.2.1 hz, Nat.le_trans h.2.2.1 hz, Nat.le_trans h.2.2.2.1 hz, Nat.le_trans h.2.2.2.2.1 hz, Nat.le_trans h.2.2.2.2.2 hz⟩
def MLoop (R : Ans8 (Msg × Nat)) (l : List Tk) (d n : Nat) (m : Msg) (q a b : Nat) : Prop :=
 (b = 0 ∧ a = 0 ∧ 1 ≤ n ∧ l.length + 1 ≤ n + q ∧ q ≤ l.length ∧ Small m (200000 * q) ∧ R = sBody l (sMessage l d) n m q) ∨ (b ≠ 0 ∧ R = .error (a, b))
theorem MLoop.go {R : Ans8 (Msg × Nat)} {l : List Tk} {d n : Nat} {m : Msg} {q a b : Nat} (h : MLoop R l d n m q a b) (hb : decide ((b : Int) = 0) = true) : a = 0 ∧ b = 0 ∧ (∃ k, n = k + 1) ∧ l.length + 1 ≤ n + q ∧ q ≤ l.length ∧ Small m (200000 * q) ∧ R = sBody l (sMessage l d) n m q := by
 have hb' : b = 0 := by simpa using hb
 rcases h with ⟨h1, h2, h3, h4, h5, h6, h7⟩ | ⟨h1, _⟩
 ·exact ⟨h2, h1, ⟨n - 1, by omega⟩, h4, h5, h6, h7⟩
 ·exact absurd hb' h1
theorem MLoop.stop {R : Ans8 (Msg × Nat)} {l : List Tk} {d n : Nat} {m : Msg} {q a b : Nat} (h : MLoop R l d n m q a b) (hb : decide ((b : Int) = 0) = false) : b ≠ 0 ∧ R = .error (a, b) := by
 have hb' : ¬ b = 0 := by simpa using hb
 rcases h with ⟨h1, _⟩ | h
 ·exact absurd h1 hb'
 ·exact h
theorem MLoop.next {R : Ans8 (Msg × Nat)} {l : List Tk} {d k : Nat} {m m' : Msg} {q r a b : Nat} (hw : R = sBody l (sMessage l d) (k + 1) m q) (hc : tkIs l (semis l q) 4 [125] = false) (hn : l.length + 1 ≤ k + 1 + q) (hq : q ≤ l.length) (hr : Res (sPart l (sMessage l d) m (semis l q)) (m', r) a b) (hsm : Small m' (200000 * (q + 1))) : MLoop R l d k m' r a b := by
 have h5 := semis_le hq
 rcases hr with ⟨h1, h2, h3⟩ | ⟨h1, h3⟩
 ·have h4 := sPart_ok (sMessage_ok l d) h3
  refine .inl ⟨h1, h2, by omega, by omega, by omega, hsm.mono (by omega), ?_⟩
  simp only [hw, sBody, hc, h3]
  rfl
 ·refine .inr ⟨h1, ?_⟩
  simp only [hw, sBody, hc, h3]
  rfl
theorem flds_one (fs : List Fld) : (fs.flatMap Fld.dats).all Dat.isOne = true := by
 induction fs with
 | nil => rfl
 | cons f fs ih => rw [List.flatMap_cons, List.all_append, ih]; rfl
theorem rngs_one (fs : List (Int × Int)) : (fs.flatMap rangeDats).all Dat.isOne = true := by
 induction fs with
 | nil => rfl
 | cons f fs ih => rw [List.flatMap_cons, List.all_append, ih]; rfl
theorem txts_one (fs : List (List UInt8)) : (fs.flatMap textDats).all Dat.isOne = true := by
 induction fs with
 | nil => rfl
 | cons f fs ih => rw [List.flatMap_cons, List.all_append, ih]; rfl
theorem wordAt_is {l : List Tk} {p : Nat} (h : tkIs l p 1 [] = true) : wordAt l p = (tkAt l p).1.t := by
 have hlt := tkIs_lt h
 unfold tkIs at h
 unfold wordAt
 rw [tkAt_lt hlt] at h ⊢
 simp at h
 exact if_pos h
theorem wordAt_not {l : List Tk} {p : Nat} (h : tkIs l p 1 [] = false) : wordAt l p = [] := by
 unfold tkIs at h
 unfold wordAt
 cases hx : l[p]? with
 | none => rfl
 | some x =>
  rw [hx] at h
  simp at h
  exact if_neg h
theorem wordAt_lt {l : List Tk} {p : Nat} {t : List UInt8} (h : wordAt l p = t) (ht : t ≠ []) : p < l.length := by
 rcases Nat.lt_or_ge p l.length with h' | h'
 ·exact h'
 ·unfold wordAt at h
  rw [List.getElem?_eq_none h'] at h
  exact absurd h.symm ht
abbrev mT (l : List Tk) (deep : Int) (q : Nat) : TL := [(0, .part (tksP l)), (1, .is (.int .i64 (q : Int))), (2, .is (.int .i64 deep)), (6, .box 6 0), (7, .is (.int .i64 0)), (8, .box 8 0), (11, .box 11 0), (12, .box 12 0)]
abbrev mB (m : Msg) (a b : Nat) : BL := [(6, ⟨68, [.is (.string ⟨#[]⟩), .is (.slice none 0 0), .is (.slice none 0 0), .is (.slice none 0 0), .is (.slice none 0 0), .is (.slice none 0 0), .is (.slice none 0 0), .is (.int .i64 0), .is (.int .i64 0)]⟩), (8, ⟨102, [.is (.int .i64 0), .is (.int .i64 0)]⟩), (11, ⟨102, [.is (.int .i64 (a : Int)), .is (.int .i64 (b : Int))]⟩), (12, ⟨68, [.is (.string (str m.name)), .own 100, .own 101, .own 102, .own 103, .own 104, .own 105, .is (.int .i64 m.line), .is (.int .i64 m.col)]⟩)]
abbrev mR (m : Msg) : RL := [(100, ⟨112, 10, m.fields.length, m.fields.flatMap Fld.dats, false⟩), (101, ⟨9, 1, m.oneofs.length, m.oneofs.flatMap textDats, false⟩), (102, ⟨68, 9, m.msgs.length, m.msgs.flatMap Msg.dats, false⟩), (103, ⟨72, 4, m.enums.length, m.enums.flatMap Enm.dats, false⟩), (104, ⟨114, 2, m.reserved.length, m.reserved.flatMap rangeDats, false⟩), (105, ⟨9, 1, m.names.length, m.names.flatMap textDats, false⟩)]
set_option maxRecDepth 100000 in
set_option maxHeartbeats 4000000 in
theorem message_step (l : List Tk) (hl : TksOk l) (d : Nat) (hd8 : d ≤ 8) (ih : ∀ e, d = e + 1 → ∀ (deep : Int) (p : Nat), deep = 8 - (e : Int) → p ≤ 100000 → EFx Tryz.prog [] 61 [tksP l, iP p, iP deep] (RY mQ (sMessage l e p))) (deep : Int) (p : Nat) (hd : deep = 8 - (d : Int)) (hp : p ≤ 100000) :
  EFx Tryz.prog [] 61 [tksP l, iP p, iP deep] (RY mQ (sMessage l d p)) := by
 refine ef_enter 212 Tryz.func61 rfl rfl rfl fun w D => ?_
 try refine e_fl ?_
 have hll := hl.len
 refine e_list ?_
 refine e_alloc 6 [.is (.string ⟨#[]⟩), .is (.slice none 0 0), .is (.slice none 0 0), .is (.slice none 0 0), .is (.slice none 0 0), .is (.slice none 0 0), .is (.slice none 0 0), .is (.int .i64 0), .is (.int .i64 0)] rfl rfl rfl rfl zr_68 (fun w D M V => ⟨rfl, fun j x v h1 h2 => cfit_is _ h1 h2 rfl⟩) rfl rfl rfl rfl ?_
 refine l_as ?_
 refine e_alloc 8 [.is (.int .i64 0), .is (.int .i64 0)] rfl rfl rfl rfl zr_102 (fun w D M V => ⟨rfl, fun j x v h1 h2 => cfit_is _ h1 h2 rfl⟩) rfl rfl rfl rfl ?_
 refine e_nil ?_
 try refine e_fl ?_
 refine e_list ?_
 refine l_mv ?_
 refine l_mv ?_
 refine e_list_call rfl rfl rfl rfl (by kernel_rfl) (name_y l hl p) ⟨(kn rfl), ⟨(kn rfl), trivial⟩⟩ ?_
 rintro _ ⟨x, q0, a, b, rfl, hr⟩
 refine l_mv ?_
 refine l_ex ?_
 refine l_ex ?_
 refine l_ex ?_
 refine e_alloc 9 [.is (.int .i64 0), .is (.string ⟨#[]⟩), .is (.int .i64 0), .is (.int .i64 0), .is (.int .i64 0)] rfl rfl rfl rfl zr_97 (fun w D M V => ⟨rfl, fun j x v h1 h2 => cfit_is _ h1 h2 rfl⟩) rfl rfl rfl rfl ?_
 refine e_alloc 11 [.is (.int .i64 0), .is (.int .i64 0)] rfl rfl rfl rfl zr_102 (fun w D M V => ⟨rfl, fun j x v h1 h2 => cfit_is _ h1 h2 rfl⟩) rfl rfl rfl rfl ?_
 refine e_storew rfl rfl rfl (kn rfl) rfl (kn rfl) rfl rfl sz_97 ?_
 refine l_as ?_
 refine e_storew rfl rfl rfl (kn rfl) rfl (kn rfl) rfl rfl sz_102 ?_
 refine e_nil ?_
 try refine e_fl ?_
 refine e_plain (w_op rfl rfl rfl (s_faddr_box rfl (kn rfl) off_102_1) (w_op rfl rfl rfl (s_load1_box rfl (kn rfl) rfl rfl one_3) (w_op rfl rfl rfl (s_bin rfl (kn rfl) (kn rfl) v_neq) .nil))) ?_
 try refine e_fl ?_
 refine e_cond rfl (fun h => ?_) (fun h => ?_)
 ·obtain ⟨hb, he⟩ := hr.bad h
  try refine e_fl ?_
  refine e_draw_mix [(6, _), (8, _)] mixed (by kernel_rfl) (WalkM.op rfl rfl rfl (s_build (ds := [_, .row 10 0 [], .row 1 0 [], .row 9 0 [], .row 4 0 [], .row 2 0 [], .row 1 0 [], _, _]) [] rfl trivial rfl pl_68 zr_68 (fun w D => .cons (.cell _) (.cons (.none _ _ _) (.cons (.none _ _ _) (.cons (.none _ _ _) (.cons (.none _ _ _) (.cons (.none _ _ _) (.cons (.none _ _ _) (.cons (.cell _) (.cons (.cell _) (.nil _ _)))))))))) rfl) (WalkM.op rfl rfl rfl (s_move rfl (kn rfl)) (WalkM.op rfl rfl rfl (s_loadn_box (ds := [_, _]) 2 rfl (kn rfl) rfl rfl agg_102 sz_102 rfl) (WalkM.stw rfl rfl rfl (kn rfl) rfl rfl (kn rfl) rfl rfl rfl sz_68 (WalkM.op rfl rfl rfl (s_assign rfl (kn rfl)) (WalkM.stw rfl rfl rfl (kn rfl) rfl rfl (kn rfl) rfl rfl rfl sz_102 (WalkM.nil))))))) rfl ?_
  try refine e_fl ?_
  exact e_return rfl rfl (.cell rfl rfl rfl agg_68 sz_68 rfl (.tmp (kn rfl) (.cell rfl rfl rfl agg_102 sz_102 rfl (.nil)))) (Imp.refl _) (⟨.mk [] [] [] [] [] [] [] 0 0, p, a, b, rfl, .ill hb (by cases d <;> simp only [sMessage, he])⟩)
 obtain ⟨rfl, rfl, hx⟩ := hr.ok h
 have hx1 := sName_ok hx
 try refine e_fl ?_
 refine e_plain (w_mv rfl rfl rfl rfl rfl (w_op rfl rfl rfl (s_bin rfl (kn rfl) (kn rfl) v_geq) .nil)) ?_
 try refine e_fl ?_
 refine e_cond rfl (fun h => ?_) (fun h => ?_)
 ·have h1 := of_decide_eq_true h
  obtain rfl : d = 0 := by omega
  try refine e_fl ?_
  refine e_list ?_
  refine l_op (s_build (ds := [_, .row 10 0 [], .row 1 0 [], .row 9 0 [], .row 4 0 [], .row 2 0 [], .row 1 0 [], _, _]) [] rfl trivial rfl pl_68 zr_68 (fun w D => .cons (.cell _) (.cons (.none _ _ _) (.cons (.none _ _ _) (.cons (.none _ _ _) (.cons (.none _ _ _) (.cons (.none _ _ _) (.cons (.none _ _ _) (.cons (.cell _) (.cons (.cell _) (.nil _ _)))))))))) rfl) ?_
  refine l_mv ?_
  refine l_mv ?_
  refine l_op (s_build (ds := [_, _]) [(0, _), (1, _)] rfl ⟨rfl, (kn rfl), ⟨rfl, (kn rfl), trivial⟩⟩ rfl pl_102 zr_102 (fun w D => .cons (.cell _) (.cons (.cell _) (.nil _ _))) rfl) ?_
  refine e_storew rfl rfl rfl (kn rfl) rfl (kn rfl) rfl rfl sz_68 ?_
  refine l_as ?_
  refine e_storew rfl rfl rfl (kn rfl) rfl (kn rfl) rfl rfl sz_102 ?_
  refine e_nil ?_
  try refine e_fl ?_
  exact e_return rfl rfl (.cell rfl rfl rfl agg_68 sz_68 rfl (.tmp (kn rfl) (.cell rfl rfl rfl agg_102 sz_102 rfl (.nil)))) (Imp.refl _) (⟨.mk [] [] [] [] [] [] [] 0 0, p, p, 8, rfl, .ill (by decide) (by simp only [sMessage, hx])⟩)
 have h1 := of_decide_eq_false h
 obtain ⟨e, rfl⟩ : ∃ e, d = e + 1 := ⟨d - 1, by omega⟩
 try refine e_fl ?_
 refine e_list ?_
 refine l_op (s_faddr_box rfl (kn rfl) off_97_1) ?_
 refine l_op (s_load1_box rfl (kn rfl) rfl rfl one_9) ?_
 refine l_op (s_faddr_box rfl (kn rfl) off_97_3) ?_
 refine l_op (s_load1_box rfl (kn rfl) rfl rfl one_3) ?_
 refine l_op (s_faddr_box rfl (kn rfl) off_97_4) ?_
 refine l_op (s_load1_box rfl (kn rfl) rfl rfl one_3) ?_
 refine l_op (s_build (ds := [_, _, _, _, _, _, _, _, _]) [(0, _), (7, _), (8, _)] rfl ⟨rfl, (kn rfl), ⟨rfl, (kn rfl), ⟨rfl, (kn rfl), trivial⟩⟩⟩ rfl pl_68 zr_68 (fun w D => .cons (.cell _) (.cons (.cell _) (.cons (.cell _) (.cons (.cell _) (.cons (.cell _) (.cons (.cell _) (.cons (.cell _) (.cons (.cell _) (.cons (.cell _) (.nil _ _)))))))))) rfl) ?_
 refine e_alloc 12 [.is (.string ⟨#[]⟩), .is (.slice none 0 0), .is (.slice none 0 0), .is (.slice none 0 0), .is (.slice none 0 0), .is (.slice none 0 0), .is (.slice none 0 0), .is (.int .i64 0), .is (.int .i64 0)] rfl rfl rfl rfl zr_68 (fun w D M V => ⟨rfl, fun j x v h1 h2 => cfit_is _ h1 h2 rfl⟩) rfl rfl rfl rfl ?_
 refine e_storew rfl rfl rfl (kn rfl) rfl (kn rfl) rfl rfl sz_68 ?_
 refine e_nil ?_
 try refine e_fl ?_
 refine e_list ?_
 refine l_mv ?_
 refine l_mv ?_
 refine l_op (s_buildSlice (ds := [_]) [(0, _)] rfl ⟨rfl, (kn rfl), trivial⟩ rfl sl_49 sz_9 zr_9 (fun w D => .cons (.cell _) (.nil _ _)) rfl rfl rfl rfl rfl) ?_
 refine e_list_call rfl rfl rfl rfl (by kernel_rfl) (want1 l hl 4 [123] rfl (by simp) q0 (by omega)) ⟨(kn rfl), ⟨(kn rfl), ⟨(kn rfl), trivial⟩⟩⟩ ?_
 rintro _ ⟨q1, a1, b1, rfl, hr1⟩
 refine l_mv ?_
 refine l_ex ?_
 refine l_ex ?_
 refine l_as ?_
 refine e_storew rfl rfl rfl (kn rfl) rfl (kn rfl) rfl rfl sz_102 ?_
 refine e_nil ?_
 try refine e_fl ?_
 refine e_row_cell 12 1 100 112 10 rfl rfl rfl rfl rfl ?_
 refine e_row_cell 12 2 101 9 1 rfl rfl rfl rfl rfl ?_
 refine e_row_cell 12 3 102 68 9 rfl rfl rfl rfl rfl ?_
 refine e_row_cell 12 4 103 72 4 rfl rfl rfl rfl rfl ?_
 refine e_row_cell 12 5 104 114 2 rfl rfl rfl rfl rfl ?_
 refine e_row_cell 12 6 105 9 1 rfl rfl rfl rfl rfl ?_
 refine e_loop (ι := { i : Nat × Msg × Nat × Nat × Nat // MLoop (sMessage l (e + 1) p) l e i.1 i.2.1 i.2.2.1 i.2.2.2.1 i.2.2.2.2 })
  (fun i => mT l deep i.1.2.2.1) (fun i => mB i.1.2.1 i.1.2.2.2.1 i.1.2.2.2.2) (fun i => mR i.1.2.1)
  (fun i => if i.1.2.2.2.2 = 0 then i.1.1 + 1 else 0) ⟨(l.length + 1, .mk x.1.t [] [] [] [] [] [] x.2.1 x.2.2, q1, a1, b1), by
   dsimp only
   rcases hr1 with ⟨h1, h2, h3⟩ | ⟨h1, h3⟩
   ·have h4 := sWant_ok h3
    exact .inl ⟨h1, h2, by omega, by omega, by omega, by simp [Small, Msg.fields, Msg.oneofs, Msg.msgs, Msg.enums, Msg.reserved, Msg.names], by simp only [sMessage, hx, h3]⟩
   ·exact .inr ⟨h1, by simp only [sMessage, hx, h3]⟩⟩
  (fun K => e_sub ⟨s_t, s_t, s_t, s_t, s_t, s_t, s_t, s_t, trivial⟩ ⟨s_b, s_b, s_b, s_b, trivial⟩ ⟨rfl, rfl, rfl, rfl, rfl, rfl, trivial⟩) ?_
 rintro ⟨⟨n, ⟨nm, fs, os, ms, es, rs, ns, ln, cl⟩, q, a, b⟩, hi⟩
 dsimp only at hi ⊢
 try refine e_fl ?_
 refine e_plain (w_op rfl rfl rfl (s_faddr_box rfl (kn rfl) off_102_1) (w_op rfl rfl rfl (s_load1_box rfl (kn rfl) rfl rfl one_3) (w_op rfl rfl rfl (s_bin rfl (kn rfl) (kn rfl) v_eql) .nil))) ?_
 try refine e_fl ?_
 refine e_cond rfl (fun h => ?_) (fun h => ?_)
 ·obtain ⟨rfl, rfl, ⟨k, rfl⟩, hn1, hq, hsm, hw⟩ := hi.go h
  have hsm0 := hsm
  obtain ⟨s1, s2, s3, s4, s5, s6⟩ : fs.length ≤ 200000 * q ∧ os.length ≤ 200000 * q ∧ ms.length ≤ 200000 * q ∧ es.length ≤ 200000 * q ∧ rs.length ≤ 200000 * q ∧ ns.length ≤ 200000 * q := hsm0
  have hs := semis_le hq
  unfold Small at hsm
  obtain ⟨t1, t2, t3, t4, t5, t6⟩ := hsm
  try refine e_fl ?_
  refine e_plain (w_mv rfl rfl rfl rfl rfl (w_mv rfl rfl rfl rfl rfl (w_op rfl rfl rfl (s_call rfl (by kernel_rfl) (semis_ef l hl q (by omega)) ⟨(kn rfl), ⟨(kn rfl), trivial⟩⟩) (w_as rfl rfl rfl rfl rfl .nil)))) ?_
  try refine e_fl ?_
  refine e_plain (w_mv rfl rfl rfl rfl rfl (w_mv rfl rfl rfl rfl rfl (w_op rfl rfl rfl (s_call rfl (by kernel_rfl) (is_ef l (semis l q) 4 [125]) ⟨(kn rfl), ⟨(kn rfl), ⟨(kn rfl), ⟨(kn rfl), trivial⟩⟩⟩⟩) .nil))) ?_
  try refine e_fl ?_
  refine e_cond rfl (fun hc => ?_) (fun hc => ?_)
  ·have hlt := tkIs_lt hc
   try refine e_fl ?_
   refine e_freeze_cell 12 1 100 rfl rfl rfl rfl rfl ?_
   refine e_freeze_cell 12 2 101 rfl rfl rfl rfl rfl ?_
   refine e_freeze_cell 12 3 102 rfl rfl rfl rfl rfl ?_
   refine e_freeze_cell 12 4 103 rfl rfl rfl rfl rfl ?_
   refine e_freeze_cell 12 5 104 rfl rfl rfl rfl rfl ?_
   refine e_freeze_cell 12 6 105 rfl rfl rfl rfl rfl ?_
   refine e_list ?_
   refine l_op (s_loadn_box (ds := [_, _, _, _, _, _, _, _, _]) 9 rfl (kn rfl) rfl rfl agg_68 sz_68 rfl) ?_
   refine l_mv ?_
   refine l_op (s_bin rfl (kn rfl) (kn rfl) (v_add64 (by first | omega | (dsimp only; omega) | omega))) ?_
   refine l_op (s_build (ds := [_, _]) [] rfl trivial rfl pl_102 zr_102 (fun w D => .cons (.cell _) (.cons (.cell _) (.nil _ _))) rfl) ?_
   refine e_storew rfl rfl rfl (kn rfl) rfl (kn rfl) rfl rfl sz_68 ?_
   refine l_as ?_
   refine e_storew rfl rfl rfl (kn rfl) rfl (kn rfl) rfl rfl sz_102 ?_
   refine e_nil ?_
   try refine e_fl ?_
   exact e_return rfl rfl (.cell rfl rfl rfl agg_68 sz_68 rfl (.tmp (kn rfl) (.cell rfl rfl rfl agg_102 sz_102 rfl (.nil)))) (Imp.refl _) (⟨.mk nm fs os ms es rs ns ln cl, semis l q + 1, 0, 0, rfl, .good (by simp only [hw, sBody, hc]; rfl)⟩)
  try refine e_fl ?_
  refine e_plain (w_as rfl rfl rfl rfl rfl .nil) ?_
  try refine e_fl ?_
  refine e_plain (w_mv rfl rfl rfl rfl rfl (w_mv rfl rfl rfl rfl rfl (w_op rfl rfl rfl (s_call rfl (by kernel_rfl) (is_ef l (semis l q) 1 []) ⟨(kn rfl), ⟨(kn rfl), ⟨(kn rfl), ⟨(kn rfl), trivial⟩⟩⟩⟩) .nil))) ?_
  try refine e_fl ?_
  refine e_cutk (ι := Unit) (fun _ => (13, .is (.string (str (wordAt l (semis l q))))) :: mT l deep (semis l q)) (fun _ => mB (.mk nm fs os ms es rs ns ln cl) 0 0) (fun _ => mR (.mk nm fs os ms es rs ns ln cl)) ?_ (fun _ => ?_)
  ·refine e_cond rfl (fun h => ?_) (fun h => ?_)
   ·have hlt := tkIs_lt h
    try refine e_fl ?_
    refine e_plain (w_mv rfl rfl rfl rfl rfl (w_mv rfl rfl rfl rfl rfl (w_op rfl rfl rfl (s_index rfl (kn rfl) (kn rfl) (by omega) (tkAt_lt (p := semis l q) hlt) tkD_len sle_104 esz_104 rfl) (w_op rfl rfl rfl (s_faddr_ref rfl (kn rfl) off_97_1) (w_op rfl rfl rfl (s_load1_ref rfl (kn rfl) one_9) (w_as rfl rfl rfl rfl rfl .nil)))))) ?_
    try refine e_fl ?_
    rw [wordAt_is h]
    refine e_meet () (fun K => e_sub ⟨s_t, s_t, s_t, s_t, s_t, s_t, s_t, s_t, s_t, trivial⟩ ⟨s_b, s_b, s_b, s_b, trivial⟩ ⟨rfl, rfl, rfl, rfl, rfl, rfl, trivial⟩)
   ·try refine e_fl ?_
    rw [wordAt_not h]
    refine e_meet () (fun K => e_sub ⟨s_t, s_t, s_t, s_t, s_t, s_t, s_t, s_t, s_t, trivial⟩ ⟨s_b, s_b, s_b, s_b, trivial⟩ ⟨rfl, rfl, rfl, rfl, rfl, rfl, trivial⟩)
  try refine e_fl ?_
  refine e_plain (w_mv rfl rfl rfl rfl rfl (w_op rfl rfl rfl (s_bin rfl (kn rfl) (kn rfl) (v_seql (b := [109, 101, 115, 115, 97, 103, 101]))) (w_as rfl rfl rfl rfl rfl .nil))) ?_
  try refine e_fl ?_
  refine e_cond rfl (fun h => ?_) (fun h => ?_)
  ·have w1 := of_decide_eq_true h
   have hlt := wordAt_lt w1 (by simp)
   try refine e_fl ?_
   refine e_list ?_
   refine e_alloc 14 [.is (.string ⟨#[]⟩), .is (.slice none 0 0), .is (.slice none 0 0), .is (.slice none 0 0), .is (.slice none 0 0), .is (.slice none 0 0), .is (.slice none 0 0), .is (.int .i64 0), .is (.int .i64 0)] rfl rfl rfl rfl zr_68 (fun w D M V => ⟨rfl, fun j x v h1 h2 => cfit_is _ h1 h2 rfl⟩) rfl rfl rfl rfl ?_
   refine e_nil ?_
   try refine e_fl ?_
   refine e_list ?_
   refine l_mv ?_
   refine l_mv ?_
   refine l_op (s_bin rfl (kn rfl) (kn rfl) (v_add64 (by first | omega | (dsimp only; omega) | omega))) ?_
   refine l_mv ?_
   refine l_op (s_bin rfl (kn rfl) (kn rfl) (v_add64 (by first | omega | (dsimp only; omega) | omega))) ?_
   refine e_list_call rfl rfl rfl rfl (by kernel_rfl) (ih e rfl (deep + 1) (semis l q + 1) (by omega) (by omega)) ⟨(kn rfl), ⟨(kn rfl), ⟨(kn rfl), trivial⟩⟩⟩ ?_
   rintro _ ⟨f, r, a, b, rfl, hr⟩
   refine l_mv ?_
   refine l_ex ?_
   refine l_ex ?_
   refine l_ex ?_
   refine e_storew rfl rfl rfl (kn rfl) rfl (kn rfl) rfl rfl sz_68 ?_
   refine l_as ?_
   refine e_storew rfl rfl rfl (kn rfl) rfl (kn rfl) rfl rfl sz_102 ?_
   refine e_nil ?_
   try refine e_fl ?_
   refine e_list ?_
   refine l_op (s_faddr_box rfl (kn rfl) off_68_3) ?_
   refine l_op (s_load1_box rfl (kn rfl) rfl rfl one_31) ?_
   refine l_op (s_loadn_box (ds := [_, _, _, _, _, _, _, _, _]) 9 rfl (kn rfl) rfl rfl agg_68 sz_68 rfl) ?_
   refine l_op (s_buildSlice (ds := [_, _, _, _, _, _, _, _, _]) [(0, _)] rfl ⟨rfl, (kn rfl), trivial⟩ rfl sl_31 sz_68 zr_68 (fun w D => .cons (.cell _) (.cons (.cell _) (.cons (.cell _) (.cons (.cell _) (.cons (.cell _) (.cons (.cell _) (.cons (.cell _) (.cons (.cell _) (.cons (.cell _) (.nil _ _)))))))))) rfl rfl rfl rfl rfl) ?_
   refine e_append rfl rfl rfl rfl (kn rfl) rfl (kn rfl) sl_31 ap_31 rfl rfl (by first | omega | (dsimp only; omega) | omega) (by first | omega | (dsimp only; omega) | omega) ?_
   refine l_op (s_faddr_box rfl (kn rfl) off_68_3) ?_
   refine e_store_own rfl rfl rfl (kn rfl) rfl (kn rfl) rfl rfl sz_31 rfl ?_
   refine e_nil ?_
   try refine e_fl ?_
   refine e_again ⟨(k, (Msg.mk nm fs os ms es rs ns ln cl).addMsg f, r, a, b), by
     dsimp only
     exact MLoop.next hw hc hn1 hq (hr.next (fun h => by simp [sPart, w1, h, Msg.addMsg]) (fun h => by simp [sPart, w1, h])) (by
      refine ⟨?_, ?_, ?_, ?_, ?_, ?_⟩ <;> simp only [Msg.addMsg, Msg.fields, Msg.oneofs, Msg.msgs, Msg.enums, Msg.reserved, Msg.names, List.length_append, List.length_cons, List.length_nil] <;> omega)⟩ (by dsimp only; rw [if_pos (show (0 : Nat) = 0 from rfl)]; split <;> omega)
    (fun K => e_sub ⟨s_t, s_t, s_t, s_t, s_t, s_t, s_t, s_t, trivial⟩ ⟨s_b, s_b, s_b, s_b, trivial⟩ ⟨rfl, rfl, rowEq rfl (by simp [Msg.addMsg, Msg.msgs]) (by simp [Msg.addMsg, Msg.msgs, List.flatMap_append, dats_md, md]), rfl, rfl, rfl, trivial⟩)
  have n1 := of_decide_eq_false h
  try refine e_fl ?_
  refine e_plain (w_mv rfl rfl rfl rfl rfl (w_op rfl rfl rfl (s_bin rfl (kn rfl) (kn rfl) (v_seql (b := [101, 110, 117, 109]))) (w_as rfl rfl rfl rfl rfl .nil))) ?_
  try refine e_fl ?_
  refine e_cond rfl (fun h => ?_) (fun h => ?_)
  ·have w1 := of_decide_eq_true h
   have hlt := wordAt_lt w1 (by simp)
   try refine e_fl ?_
   refine e_list ?_
   refine e_alloc 15 [.is (.string ⟨#[]⟩), .is (.slice none 0 0), .is (.int .i64 0), .is (.int .i64 0)] rfl rfl rfl rfl zr_72 (fun w D M V => ⟨rfl, fun j x v h1 h2 => cfit_is _ h1 h2 rfl⟩) rfl rfl rfl rfl ?_
   refine e_nil ?_
   try refine e_fl ?_
   refine e_list ?_
   refine l_mv ?_
   refine l_mv ?_
   refine l_op (s_bin rfl (kn rfl) (kn rfl) (v_add64 (by first | omega | (dsimp only; omega) | omega))) ?_
   refine e_list_call rfl rfl rfl rfl (by kernel_rfl) (enum_y l hl (semis l q + 1) (by omega)) ⟨(kn rfl), ⟨(kn rfl), trivial⟩⟩ ?_
   rintro _ ⟨f, r, a, b, rfl, hr⟩
   refine l_mv ?_
   refine l_ex ?_
   refine l_ex ?_
   refine l_ex ?_
   refine e_storew rfl rfl rfl (kn rfl) rfl (kn rfl) rfl rfl sz_72 ?_
   refine l_as ?_
   refine e_storew rfl rfl rfl (kn rfl) rfl (kn rfl) rfl rfl sz_102 ?_
   refine e_nil ?_
   try refine e_fl ?_
   refine e_list ?_
   refine l_op (s_faddr_box rfl (kn rfl) off_68_4) ?_
   refine l_op (s_load1_box rfl (kn rfl) rfl rfl one_32) ?_
   refine l_op (s_loadn_box (ds := [_, _, _, _]) 4 rfl (kn rfl) rfl rfl agg_72 sz_72 rfl) ?_
   refine l_op (s_buildSlice (ds := [_, _, _, _]) [(0, _)] rfl ⟨rfl, (kn rfl), trivial⟩ rfl sl_32 sz_72 zr_72 (fun w D => .cons (.cell _) (.cons (.cell _) (.cons (.cell _) (.cons (.cell _) (.nil _ _))))) rfl rfl rfl rfl rfl) ?_
   refine e_append rfl rfl rfl rfl (kn rfl) rfl (kn rfl) sl_32 ap_32 rfl rfl (by first | omega | (dsimp only; omega) | omega) (by first | omega | (dsimp only; omega) | omega) ?_
   refine l_op (s_faddr_box rfl (kn rfl) off_68_4) ?_
   refine e_store_own rfl rfl rfl (kn rfl) rfl (kn rfl) rfl rfl sz_32 rfl ?_
   refine e_nil ?_
   try refine e_fl ?_
   refine e_again ⟨(k, (Msg.mk nm fs os ms es rs ns ln cl).addEnum f, r, a, b), by
     dsimp only
     exact MLoop.next hw hc hn1 hq (hr.next (fun h => by simp [sPart, w1, h, Msg.addEnum]) (fun h => by simp [sPart, w1, h])) (by
      refine ⟨?_, ?_, ?_, ?_, ?_, ?_⟩ <;> simp only [Msg.addEnum, Msg.fields, Msg.oneofs, Msg.msgs, Msg.enums, Msg.reserved, Msg.names, List.length_append, List.length_cons, List.length_nil] <;> omega)⟩ (by dsimp only; rw [if_pos (show (0 : Nat) = 0 from rfl)]; split <;> omega)
    (fun K => e_sub ⟨s_t, s_t, s_t, s_t, s_t, s_t, s_t, s_t, trivial⟩ ⟨s_b, s_b, s_b, s_b, trivial⟩ ⟨rfl, rfl, rfl, rowEq rfl (by simp [Msg.addEnum, Msg.enums]) (by simp [Msg.addEnum, Msg.enums, List.flatMap_append, Enm.dats]), rfl, rfl, trivial⟩)
  have n2 := of_decide_eq_false h
  try refine e_fl ?_
  refine e_plain (w_mv rfl rfl rfl rfl rfl (w_op rfl rfl rfl (s_bin rfl (kn rfl) (kn rfl) (v_seql (b := [111, 110, 101, 111, 102]))) (w_as rfl rfl rfl rfl rfl .nil))) ?_
  try refine e_fl ?_
  refine e_cond rfl (fun h => ?_) (fun h => ?_)
  ·have w1 := of_decide_eq_true h
   have hlt := wordAt_lt w1 (by simp)
   try refine e_fl ?_
   refine e_plain (w_as rfl rfl rfl rfl rfl .nil) ?_
   try refine e_fl ?_
   refine e_plain (w_as rfl rfl rfl rfl rfl .nil) ?_
   try refine e_fl ?_
   refine e_list ?_
   refine l_mv ?_
   refine l_mv ?_
   refine l_op (s_bin rfl (kn rfl) (kn rfl) (v_add64 (by first | omega | (dsimp only; omega) | omega))) ?_
   refine l_op (s_faddr_box rfl (kn rfl) off_68_2) ?_
   refine l_op (s_load1_box rfl (kn rfl) rfl rfl one_49) ?_
   refine l_op (s_len_own rfl (kn rfl) rfl sle_49) ?_
   refine l_op (s_bin rfl (kn rfl) (kn rfl) (v_add64 (by first | omega | (dsimp only; omega) | omega))) ?_
   refine e_list_call rfl rfl rfl rfl (by kernel_rfl) (oneof_y l hl (semis l q + 1) (by omega) ((os.length : Int) + 1)) ⟨(kn rfl), ⟨(kn rfl), ⟨(kn rfl), trivial⟩⟩⟩ ?_
   rintro _ ⟨⟨on, ofs⟩, r, a, b, rfl, hc1, hr⟩
   refine l_mv ?_
   refine l_ex ?_
   refine l_ex ?_
   refine l_ex ?_
   refine l_ex ?_
   refine l_as ?_
   refine l_as ?_
   refine l_as ?_
   refine e_storew rfl rfl rfl (kn rfl) rfl (kn rfl) rfl rfl sz_102 ?_
   refine e_nil ?_
   try refine e_fl ?_
   dsimp only at hc1
   refine e_list ?_
   refine l_op (s_faddr_box rfl (kn rfl) off_68_2) ?_
   refine l_op (s_load1_box rfl (kn rfl) rfl rfl one_49) ?_
   refine l_mv ?_
   refine l_op (s_buildSlice (ds := [_]) [(0, _)] rfl ⟨rfl, (kn rfl), trivial⟩ rfl sl_49 sz_9 zr_9 (fun w D => .cons (.cell _) (.nil _ _)) rfl rfl rfl rfl rfl) ?_
   refine e_append rfl rfl rfl rfl (kn rfl) rfl (kn rfl) sl_49 ap_49 rfl rfl (by first | omega | (dsimp only; omega) | omega) (by first | omega | (dsimp only; omega) | omega) ?_
   refine l_op (s_faddr_box rfl (kn rfl) off_68_2) ?_
   refine e_store_own rfl rfl rfl (kn rfl) rfl (kn rfl) rfl rfl sz_49 rfl ?_
   refine e_nil ?_
   try refine e_fl ?_
   refine e_list ?_
   refine l_op (s_faddr_box rfl (kn rfl) off_68_1) ?_
   refine l_op (s_load1_box rfl (kn rfl) rfl rfl one_65) ?_
   refine l_mv ?_
   refine e_append rfl rfl rfl rfl (kn rfl) rfl (kn rfl) sl_65 ap_65 rfl (flds_one _) (by first | omega | (dsimp only; omega) | omega) (by first | omega | (dsimp only; omega) | omega) ?_
   refine l_op (s_faddr_box rfl (kn rfl) off_68_1) ?_
   refine e_store_own rfl rfl rfl (kn rfl) rfl (kn rfl) rfl rfl sz_65 rfl ?_
   refine e_nil ?_
   try refine e_fl ?_
   refine e_again ⟨(k, (Msg.mk nm fs os ms es rs ns ln cl).addOneof (on, ofs), r, a, b), by
     dsimp only
     exact MLoop.next hw hc hn1 hq (hr.next (fun h => by simp [sPart, w1, Msg.oneofs, h, Msg.addOneof]) (fun h => by simp [sPart, w1, Msg.oneofs, h])) (by
      refine ⟨?_, ?_, ?_, ?_, ?_, ?_⟩ <;> simp only [Msg.addOneof, Msg.fields, Msg.oneofs, Msg.msgs, Msg.enums, Msg.reserved, Msg.names, List.length_append, List.length_cons, List.length_nil] <;> omega)⟩ (by dsimp only; rw [if_pos (show (0 : Nat) = 0 from rfl)]; split <;> omega)
    (fun K => e_sub ⟨s_t, s_t, s_t, s_t, s_t, s_t, s_t, s_t, trivial⟩ ⟨s_b, s_b, s_b, s_b, trivial⟩ ⟨rowEq rfl (by simp [Msg.addOneof, Msg.fields]) (by simp [Msg.addOneof, Msg.fields, List.flatMap_append]), rowEq rfl (by simp [Msg.addOneof, Msg.oneofs]) (by simp [Msg.addOneof, Msg.oneofs, List.flatMap_append, textDats]), rfl, rfl, rfl, rfl, trivial⟩)
  have n3 := of_decide_eq_false h
  try refine e_fl ?_
  refine e_plain (w_mv rfl rfl rfl rfl rfl (w_op rfl rfl rfl (s_bin rfl (kn rfl) (kn rfl) (v_seql (b := [114, 101, 115, 101, 114, 118, 101, 100]))) (w_as rfl rfl rfl rfl rfl .nil))) ?_
  try refine e_fl ?_
  refine e_cond rfl (fun h => ?_) (fun h => ?_)
  ·have w1 := of_decide_eq_true h
   have hlt := wordAt_lt w1 (by simp)
   try refine e_fl ?_
   refine e_plain (w_as rfl rfl rfl rfl rfl .nil) ?_
   try refine e_fl ?_
   refine e_plain (w_as rfl rfl rfl rfl rfl .nil) ?_
   try refine e_fl ?_
   refine e_list ?_
   refine l_mv ?_
   refine l_mv ?_
   refine l_op (s_bin rfl (kn rfl) (kn rfl) (v_add64 (by first | omega | (dsimp only; omega) | omega))) ?_
   refine e_list_call rfl rfl rfl rfl (by kernel_rfl) (reserved_y l hl (semis l q + 1) (by omega)) ⟨(kn rfl), ⟨(kn rfl), trivial⟩⟩ ?_
   rintro _ ⟨⟨rs2, ns2⟩, r, a, b, rfl, hc1, hr⟩
   refine l_mv ?_
   refine l_ex ?_
   refine l_ex ?_
   refine l_ex ?_
   refine l_ex ?_
   refine l_as ?_
   refine l_as ?_
   refine l_as ?_
   refine e_storew rfl rfl rfl (kn rfl) rfl (kn rfl) rfl rfl sz_102 ?_
   refine e_nil ?_
   try refine e_fl ?_
   dsimp only at hc1
   obtain ⟨hc2, hc3⟩ := hc1
   refine e_list ?_
   refine l_op (s_faddr_box rfl (kn rfl) off_68_5) ?_
   refine l_op (s_load1_box rfl (kn rfl) rfl rfl one_66) ?_
   refine l_mv ?_
   refine e_append rfl rfl rfl rfl (kn rfl) rfl (kn rfl) sl_66 ap_66 rfl (rngs_one _) (by first | omega | (dsimp only; omega) | omega) (by first | omega | (dsimp only; omega) | omega) ?_
   refine l_op (s_faddr_box rfl (kn rfl) off_68_5) ?_
   refine e_store_own rfl rfl rfl (kn rfl) rfl (kn rfl) rfl rfl sz_66 rfl ?_
   refine e_nil ?_
   try refine e_fl ?_
   refine e_list ?_
   refine l_op (s_faddr_box rfl (kn rfl) off_68_6) ?_
   refine l_op (s_load1_box rfl (kn rfl) rfl rfl one_49) ?_
   refine l_mv ?_
   refine e_append rfl rfl rfl rfl (kn rfl) rfl (kn rfl) sl_49 ap_49 rfl (txts_one _) (by first | omega | (dsimp only; omega) | omega) (by first | omega | (dsimp only; omega) | omega) ?_
   refine l_op (s_faddr_box rfl (kn rfl) off_68_6) ?_
   refine e_store_own rfl rfl rfl (kn rfl) rfl (kn rfl) rfl rfl sz_49 rfl ?_
   refine e_nil ?_
   try refine e_fl ?_
   refine e_again ⟨(k, (Msg.mk nm fs os ms es rs ns ln cl).addReserved (rs2, ns2), r, a, b), by
     dsimp only
     exact MLoop.next hw hc hn1 hq (hr.next (fun h => by simp [sPart, w1, h, Msg.addReserved]) (fun h => by simp [sPart, w1, h])) (by
      refine ⟨?_, ?_, ?_, ?_, ?_, ?_⟩ <;> simp only [Msg.addReserved, Msg.fields, Msg.oneofs, Msg.msgs, Msg.enums, Msg.reserved, Msg.names, List.length_append, List.length_cons, List.length_nil] <;> omega)⟩ (by dsimp only; rw [if_pos (show (0 : Nat) = 0 from rfl)]; split <;> omega)
    (fun K => e_sub ⟨s_t, s_t, s_t, s_t, s_t, s_t, s_t, s_t, trivial⟩ ⟨s_b, s_b, s_b, s_b, trivial⟩ ⟨rfl, rfl, rfl, rfl, rowEq rfl (by simp [Msg.addReserved, Msg.reserved]) (by simp [Msg.addReserved, Msg.reserved, List.flatMap_append]), rowEq rfl (by simp [Msg.addReserved, Msg.names]) (by simp [Msg.addReserved, Msg.names, List.flatMap_append]), trivial⟩)
  have n4 := of_decide_eq_false h
  try refine e_fl ?_
  refine e_list ?_
  refine e_alloc 20 [.is (.string ⟨#[]⟩), .is (.string ⟨#[]⟩), .is (.string ⟨#[]⟩), .is (.string ⟨#[]⟩), .is (.int .i64 0), .is (.int .i64 0), .is (.int .i64 0), .is (.int .i64 0), .is (.int .i64 0), .is (.int .i64 0)] rfl rfl rfl rfl zr_112 (fun w D M V => ⟨rfl, fun j x v h1 h2 => cfit_is _ h1 h2 rfl⟩) rfl rfl rfl rfl ?_
  refine e_nil ?_
  try refine e_fl ?_
  refine e_plain (w_mv rfl rfl rfl rfl rfl (w_op rfl rfl rfl (s_bin rfl (kn rfl) (kn rfl) (v_seql (b := [114, 101, 112, 101, 97, 116, 101, 100]))) .nil)) ?_
  try refine e_fl ?_
  refine e_cond rfl (fun h => ?_) (fun h => ?_)
  ·have w1 := of_decide_eq_true h
   have hlt := wordAt_lt w1 (by simp)
   try refine e_fl ?_
   refine e_list ?_
   refine l_mv ?_
   refine l_mv ?_
   refine l_op (s_bin rfl (kn rfl) (kn rfl) (v_add64 (by first | omega | (dsimp only; omega) | omega))) ?_
   refine e_list_call rfl rfl rfl rfl (by kernel_rfl) (field_y l hl (semis l q + 1) (by omega) 3 0) ⟨(kn rfl), ⟨(kn rfl), ⟨(kn rfl), ⟨(kn rfl), trivial⟩⟩⟩⟩ ?_
   rintro _ ⟨f, r, a, b, rfl, hr⟩
   refine l_mv ?_
   refine l_ex ?_
   refine l_ex ?_
   refine l_ex ?_
   refine e_storew rfl rfl rfl (kn rfl) rfl (kn rfl) rfl rfl sz_112 ?_
   refine l_as ?_
   refine e_storew rfl rfl rfl (kn rfl) rfl (kn rfl) rfl rfl sz_102 ?_
   refine e_nil ?_
   try refine e_fl ?_
   refine e_list ?_
   refine l_op (s_faddr_box rfl (kn rfl) off_68_1) ?_
   refine l_op (s_load1_box rfl (kn rfl) rfl rfl one_65) ?_
   refine l_op (s_loadn_box (ds := [_, _, _, _, _, _, _, _, _, _]) 10 rfl (kn rfl) rfl rfl agg_112 sz_112 rfl) ?_
   refine l_op (s_buildSlice (ds := [_, _, _, _, _, _, _, _, _, _]) [(0, _)] rfl ⟨rfl, (kn rfl), trivial⟩ rfl sl_65 sz_112 zr_112 (fun w D => .cons (.cell _) (.cons (.cell _) (.cons (.cell _) (.cons (.cell _) (.cons (.cell _) (.cons (.cell _) (.cons (.cell _) (.cons (.cell _) (.cons (.cell _) (.cons (.cell _) (.nil _ _))))))))))) rfl rfl rfl rfl rfl) ?_
   refine e_append rfl rfl rfl rfl (kn rfl) rfl (kn rfl) sl_65 ap_65 rfl rfl (by first | omega | (dsimp only; omega) | omega) (by first | omega | (dsimp only; omega) | omega) ?_
   refine l_op (s_faddr_box rfl (kn rfl) off_68_1) ?_
   refine e_store_own rfl rfl rfl (kn rfl) rfl (kn rfl) rfl rfl sz_65 rfl ?_
   refine e_nil ?_
   try refine e_fl ?_
   refine e_again ⟨(k, (Msg.mk nm fs os ms es rs ns ln cl).addField f, r, a, b), by
     dsimp only
     exact MLoop.next hw hc hn1 hq (hr.next (fun h => by simp [sPart, w1, h, Msg.addField]) (fun h => by simp [sPart, w1, h])) (by
      refine ⟨?_, ?_, ?_, ?_, ?_, ?_⟩ <;> simp only [Msg.addField, Msg.fields, Msg.oneofs, Msg.msgs, Msg.enums, Msg.reserved, Msg.names, List.length_append, List.length_cons, List.length_nil] <;> omega)⟩ (by dsimp only; rw [if_pos (show (0 : Nat) = 0 from rfl)]; split <;> omega)
    (fun K => e_sub ⟨s_t, s_t, s_t, s_t, s_t, s_t, s_t, s_t, trivial⟩ ⟨s_b, s_b, s_b, s_b, trivial⟩ ⟨rowEq rfl (by simp [Msg.addField, Msg.fields]) (by simp [Msg.addField, Msg.fields, List.flatMap_append, Fld.dats, Fld.cells]), rfl, rfl, rfl, rfl, rfl, trivial⟩)
  have n5 := of_decide_eq_false h
  try refine e_fl ?_
  refine e_plain (w_mv rfl rfl rfl rfl rfl (w_op rfl rfl rfl (s_bin rfl (kn rfl) (kn rfl) (v_seql (b := [111, 112, 116, 105, 111, 110, 97, 108]))) .nil)) ?_
  try refine e_fl ?_
  refine e_cond rfl (fun h => ?_) (fun h => ?_)
  ·have w1 := of_decide_eq_true h
   have hlt := wordAt_lt w1 (by simp)
   try refine e_fl ?_
   refine e_list ?_
   refine l_mv ?_
   refine l_mv ?_
   refine l_op (s_bin rfl (kn rfl) (kn rfl) (v_add64 (by first | omega | (dsimp only; omega) | omega))) ?_
   refine e_list_call rfl rfl rfl rfl (by kernel_rfl) (field_y l hl (semis l q + 1) (by omega) 2 0) ⟨(kn rfl), ⟨(kn rfl), ⟨(kn rfl), ⟨(kn rfl), trivial⟩⟩⟩⟩ ?_
   rintro _ ⟨f, r, a, b, rfl, hr⟩
   refine l_mv ?_
   refine l_ex ?_
   refine l_ex ?_
   refine l_ex ?_
   refine e_storew rfl rfl rfl (kn rfl) rfl (kn rfl) rfl rfl sz_112 ?_
   refine l_as ?_
   refine e_storew rfl rfl rfl (kn rfl) rfl (kn rfl) rfl rfl sz_102 ?_
   refine e_nil ?_
   try refine e_fl ?_
   refine e_list ?_
   refine l_op (s_faddr_box rfl (kn rfl) off_68_1) ?_
   refine l_op (s_load1_box rfl (kn rfl) rfl rfl one_65) ?_
   refine l_op (s_loadn_box (ds := [_, _, _, _, _, _, _, _, _, _]) 10 rfl (kn rfl) rfl rfl agg_112 sz_112 rfl) ?_
   refine l_op (s_buildSlice (ds := [_, _, _, _, _, _, _, _, _, _]) [(0, _)] rfl ⟨rfl, (kn rfl), trivial⟩ rfl sl_65 sz_112 zr_112 (fun w D => .cons (.cell _) (.cons (.cell _) (.cons (.cell _) (.cons (.cell _) (.cons (.cell _) (.cons (.cell _) (.cons (.cell _) (.cons (.cell _) (.cons (.cell _) (.cons (.cell _) (.nil _ _))))))))))) rfl rfl rfl rfl rfl) ?_
   refine e_append rfl rfl rfl rfl (kn rfl) rfl (kn rfl) sl_65 ap_65 rfl rfl (by first | omega | (dsimp only; omega) | omega) (by first | omega | (dsimp only; omega) | omega) ?_
   refine l_op (s_faddr_box rfl (kn rfl) off_68_1) ?_
   refine e_store_own rfl rfl rfl (kn rfl) rfl (kn rfl) rfl rfl sz_65 rfl ?_
   refine e_nil ?_
   try refine e_fl ?_
   refine e_again ⟨(k, (Msg.mk nm fs os ms es rs ns ln cl).addField f, r, a, b), by
     dsimp only
     exact MLoop.next hw hc hn1 hq (hr.next (fun h => by simp [sPart, w1, h, Msg.addField]) (fun h => by simp [sPart, w1, h])) (by
      refine ⟨?_, ?_, ?_, ?_, ?_, ?_⟩ <;> simp only [Msg.addField, Msg.fields, Msg.oneofs, Msg.msgs, Msg.enums, Msg.reserved, Msg.names, List.length_append, List.length_cons, List.length_nil] <;> omega)⟩ (by dsimp only; rw [if_pos (show (0 : Nat) = 0 from rfl)]; split <;> omega)
    (fun K => e_sub ⟨s_t, s_t, s_t, s_t, s_t, s_t, s_t, s_t, trivial⟩ ⟨s_b, s_b, s_b, s_b, trivial⟩ ⟨rowEq rfl (by simp [Msg.addField, Msg.fields]) (by simp [Msg.addField, Msg.fields, List.flatMap_append, Fld.dats, Fld.cells]), rfl, rfl, rfl, rfl, rfl, trivial⟩)
  have n6 := of_decide_eq_false h
  try refine e_fl ?_
  refine e_plain (w_mv rfl rfl rfl rfl rfl (w_op rfl rfl rfl (s_bin rfl (kn rfl) (kn rfl) (v_seql (b := [109, 97, 112]))) (w_mv rfl rfl rfl rfl rfl (Walk.gd _ rfl rfl rfl (fun h => s_move rfl (kn rfl)) (Walk.gd _ rfl rfl rfl (fun h => s_move rfl (kn rfl)) (Walk.gd _ rfl rfl rfl (fun h => s_bin rfl (kn_opt rfl h) (kn rfl) (v_add64 (by first | omega | (dsimp only; omega) | omega))) (Walk.gd _ rfl rfl rfl (fun h => s_call rfl (by kernel_rfl) (is_ef l (semis l q + 1) 4 [60]) ⟨(kn_opt rfl h), ⟨(kn_opt rfl h), ⟨(kn rfl), ⟨(kn rfl), trivial⟩⟩⟩⟩) (w_op rfl rfl rfl (s_and rfl (kn rfl) (fun hb => kn_opt rfl hb)) .nil)))))))) ?_
  try refine e_fl ?_
  refine e_cond rfl (fun h => ?_) (fun h => ?_)
  ·have w1 := of_decide_eq_true (Bool.and_eq_true _ _ ▸ h).1
   have w2 : tkIs l (semis l q + 1) 4 [60] = true := (Bool.and_eq_true _ _ ▸ h).2
   have hlt := wordAt_lt w1 (by simp)
   try refine e_fl ?_
   refine e_list ?_
   refine l_mv ?_
   refine l_mv ?_
   refine l_op (s_bin rfl (kn rfl) (kn rfl) (v_add64 (by first | omega | (dsimp only; omega) | omega))) ?_
   refine e_list_call rfl rfl rfl rfl (by kernel_rfl) (mapped_y l hl (semis l q + 1) (by omega)) ⟨(kn rfl), ⟨(kn rfl), trivial⟩⟩ ?_
   rintro _ ⟨f, r, a, b, rfl, hr⟩
   refine l_mv ?_
   refine l_ex ?_
   refine l_ex ?_
   refine l_ex ?_
   refine e_storew rfl rfl rfl (kn rfl) rfl (kn rfl) rfl rfl sz_112 ?_
   refine l_as ?_
   refine e_storew rfl rfl rfl (kn rfl) rfl (kn rfl) rfl rfl sz_102 ?_
   refine e_nil ?_
   try refine e_fl ?_
   refine e_list ?_
   refine l_op (s_faddr_box rfl (kn rfl) off_68_1) ?_
   refine l_op (s_load1_box rfl (kn rfl) rfl rfl one_65) ?_
   refine l_op (s_loadn_box (ds := [_, _, _, _, _, _, _, _, _, _]) 10 rfl (kn rfl) rfl rfl agg_112 sz_112 rfl) ?_
   refine l_op (s_buildSlice (ds := [_, _, _, _, _, _, _, _, _, _]) [(0, _)] rfl ⟨rfl, (kn rfl), trivial⟩ rfl sl_65 sz_112 zr_112 (fun w D => .cons (.cell _) (.cons (.cell _) (.cons (.cell _) (.cons (.cell _) (.cons (.cell _) (.cons (.cell _) (.cons (.cell _) (.cons (.cell _) (.cons (.cell _) (.cons (.cell _) (.nil _ _))))))))))) rfl rfl rfl rfl rfl) ?_
   refine e_append rfl rfl rfl rfl (kn rfl) rfl (kn rfl) sl_65 ap_65 rfl rfl (by first | omega | (dsimp only; omega) | omega) (by first | omega | (dsimp only; omega) | omega) ?_
   refine l_op (s_faddr_box rfl (kn rfl) off_68_1) ?_
   refine e_store_own rfl rfl rfl (kn rfl) rfl (kn rfl) rfl rfl sz_65 rfl ?_
   refine e_nil ?_
   try refine e_fl ?_
   refine e_again ⟨(k, (Msg.mk nm fs os ms es rs ns ln cl).addField f, r, a, b), by
     dsimp only
     exact MLoop.next hw hc hn1 hq (hr.next (fun h => by simp [sPart, w1, w2, h, Msg.addField]) (fun h => by simp [sPart, w1, w2, h])) (by
      refine ⟨?_, ?_, ?_, ?_, ?_, ?_⟩ <;> simp only [Msg.addField, Msg.fields, Msg.oneofs, Msg.msgs, Msg.enums, Msg.reserved, Msg.names, List.length_append, List.length_cons, List.length_nil] <;> omega)⟩ (by dsimp only; rw [if_pos (show (0 : Nat) = 0 from rfl)]; split <;> omega)
    (fun K => e_sub ⟨s_t, s_t, s_t, s_t, s_t, s_t, s_t, s_t, trivial⟩ ⟨s_b, s_b, s_b, s_b, trivial⟩ ⟨rowEq rfl (by simp [Msg.addField, Msg.fields]) (by simp [Msg.addField, Msg.fields, List.flatMap_append, Fld.dats, Fld.cells]), rfl, rfl, rfl, rfl, rfl, trivial⟩)
  have h9 := h
  try refine e_fl ?_
  refine e_list ?_
  refine l_mv ?_
  refine l_mv ?_
  refine e_list_call rfl rfl rfl rfl (by kernel_rfl) (field_y l hl (semis l q) (by omega) 1 0) ⟨(kn rfl), ⟨(kn rfl), ⟨(kn rfl), ⟨(kn rfl), trivial⟩⟩⟩⟩ ?_
  rintro _ ⟨f, r, a, b, rfl, hr⟩
  refine l_mv ?_
  refine l_ex ?_
  refine l_ex ?_
  refine l_ex ?_
  refine e_storew rfl rfl rfl (kn rfl) rfl (kn rfl) rfl rfl sz_112 ?_
  refine l_as ?_
  refine e_storew rfl rfl rfl (kn rfl) rfl (kn rfl) rfl rfl sz_102 ?_
  refine e_nil ?_
  try refine e_fl ?_
  refine e_list ?_
  refine l_op (s_faddr_box rfl (kn rfl) off_68_1) ?_
  refine l_op (s_load1_box rfl (kn rfl) rfl rfl one_65) ?_
  refine l_op (s_loadn_box (ds := [_, _, _, _, _, _, _, _, _, _]) 10 rfl (kn rfl) rfl rfl agg_112 sz_112 rfl) ?_
  refine l_op (s_buildSlice (ds := [_, _, _, _, _, _, _, _, _, _]) [(0, _)] rfl ⟨rfl, (kn rfl), trivial⟩ rfl sl_65 sz_112 zr_112 (fun w D => .cons (.cell _) (.cons (.cell _) (.cons (.cell _) (.cons (.cell _) (.cons (.cell _) (.cons (.cell _) (.cons (.cell _) (.cons (.cell _) (.cons (.cell _) (.cons (.cell _) (.nil _ _))))))))))) rfl rfl rfl rfl rfl) ?_
  refine e_append rfl rfl rfl rfl (kn rfl) rfl (kn rfl) sl_65 ap_65 rfl rfl (by first | omega | (dsimp only; omega) | omega) (by first | omega | (dsimp only; omega) | omega) ?_
  refine l_op (s_faddr_box rfl (kn rfl) off_68_1) ?_
  refine e_store_own rfl rfl rfl (kn rfl) rfl (kn rfl) rfl rfl sz_65 rfl ?_
  refine e_nil ?_
  try refine e_fl ?_
  refine e_again ⟨(k, (Msg.mk nm fs os ms es rs ns ln cl).addField f, r, a, b), by
    dsimp only
    exact MLoop.next hw hc hn1 hq (hr.next (fun h => by simp [sPart, if_neg n1, if_neg n2, if_neg n3, if_neg n4, if_neg n5, if_neg n6, h9, h, Msg.addField]) (fun h => by simp [sPart, if_neg n1, if_neg n2, if_neg n3, if_neg n4, if_neg n5, if_neg n6, h9, h])) (by
     refine ⟨?_, ?_, ?_, ?_, ?_, ?_⟩ <;> simp only [Msg.addField, Msg.fields, Msg.oneofs, Msg.msgs, Msg.enums, Msg.reserved, Msg.names, List.length_append, List.length_cons, List.length_nil] <;> omega)⟩ (by dsimp only; rw [if_pos (show (0 : Nat) = 0 from rfl)]; split <;> omega)
   (fun K => e_sub ⟨s_t, s_t, s_t, s_t, s_t, s_t, s_t, s_t, trivial⟩ ⟨s_b, s_b, s_b, s_b, trivial⟩ ⟨rowEq rfl (by simp [Msg.addField, Msg.fields]) (by simp [Msg.addField, Msg.fields, List.flatMap_append, Fld.dats, Fld.cells]), rfl, rfl, rfl, rfl, rfl, trivial⟩)
 ·obtain ⟨hb, hw⟩ := hi.stop h
  try refine e_fl ?_
  refine e_freeze_cell 12 1 100 rfl rfl rfl rfl rfl ?_
  refine e_freeze_cell 12 2 101 rfl rfl rfl rfl rfl ?_
  refine e_freeze_cell 12 3 102 rfl rfl rfl rfl rfl ?_
  refine e_freeze_cell 12 4 103 rfl rfl rfl rfl rfl ?_
  refine e_freeze_cell 12 5 104 rfl rfl rfl rfl rfl ?_
  refine e_freeze_cell 12 6 105 rfl rfl rfl rfl rfl ?_
  refine e_draw_mix [(6, _), (8, _)] mixed (by kernel_rfl) (WalkM.op rfl rfl rfl (s_loadn_box (ds := [_, _, _, _, _, _, _, _, _]) 9 rfl (kn rfl) rfl rfl agg_68 sz_68 rfl) (WalkM.op rfl rfl rfl (s_move rfl (kn rfl)) (WalkM.op rfl rfl rfl (s_loadn_box (ds := [_, _]) 2 rfl (kn rfl) rfl rfl agg_102 sz_102 rfl) (WalkM.stw rfl rfl rfl (kn rfl) rfl rfl (kn rfl) rfl rfl rfl sz_68 (WalkM.op rfl rfl rfl (s_assign rfl (kn rfl)) (WalkM.stw rfl rfl rfl (kn rfl) rfl rfl (kn rfl) rfl rfl rfl sz_102 (WalkM.nil))))))) rfl ?_
  try refine e_fl ?_
  exact e_return rfl rfl (.cell rfl rfl rfl agg_68 sz_68 rfl (.tmp (kn rfl) (.cell rfl rfl rfl agg_102 sz_102 rfl (.nil)))) (Imp.refl _) (⟨.mk nm fs os ms es rs ns ln cl, q, a, b, rfl, .ill hb hw⟩)
theorem message_y (l : List Tk) (hl : TksOk l) : ∀ (d : Nat) (_ : d ≤ 8) (deep : Int) (p : Nat), deep = 8 - (d : Int) → p ≤ 100000 → EFx Tryz.prog [] 61 [tksP l, iP p, iP deep] (RY mQ (sMessage l d p))
 | 0, h => message_step l hl 0 h fun e he => by omega
 | d + 1, h => message_step l hl (d + 1) h fun e he => by
  obtain rfl : d = e := by omega
  exact message_y l hl d (by omega)
end Go.Proofs.YtfcjeciepadmeaaGreatDoor
