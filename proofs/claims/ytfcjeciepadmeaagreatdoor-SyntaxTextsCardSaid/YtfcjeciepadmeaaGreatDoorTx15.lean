/- Part 15 of what the last text of this claim is proved by: walks over the program, and the math behind them. Conditions: as each theorem says. -/
import Derived.Test.YtfcjeciepadmeaaGreatDoorTx14
import Derived.Test.YtfcjeciepadmeaaGreatDoorProg
namespace Go.Proofs.YtfcjeciepadmeaaGreatDoor
open Go.RowKit
abbrev eQ (e : Enm) : List Part := [.many e.dats]
theorem Res.go {β : Type} {r : Ans8 β} {v : β} {a b : Nat} (hr : Res r v a b) (h : decide ((b : Int) = 0) = true) : a = 0 ∧ b = 0 ∧ r = .ok v := hr.ok (by rw [h]; rfl)
theorem Res.stop {β : Type} {r : Ans8 β} {v : β} {a b : Nat} (hr : Res r v a b) (h : decide ((b : Int) = 0) = false) : b ≠ 0 ∧ r = .error (a, b) := hr.bad (by rw [h]; rfl)
theorem lnil {α : Type} (t : List α) : decide ((t.length : Int) = 0) = decide (t.length = 0) := int_eq t.length 0
def Loop {α β : Type} (R : Ans8 (β × Nat)) (go : Nat → List α → Nat → Ans8 (β × Nat)) (m n : Nat) (vs : List α) (q a b : Nat) : Prop :=
 (b = 0 ∧ a = 0 ∧ 1 ≤ n ∧ m + 1 ≤ n + q ∧ q ≤ m ∧ vs.length ≤ q ∧ R = go n vs q) ∨ (b ≠ 0 ∧ vs.length ≤ m + 1 ∧ R = .error (a, b))
theorem Loop.go {α β : Type} {R : Ans8 (β × Nat)} {go : Nat → List α → Nat → Ans8 (β × Nat)} {m n : Nat} {vs : List α} {q a b : Nat} (h : Loop R go m n vs q a b) (hb : decide ((b : Int) = 0) = true) : a = 0 ∧ b = 0 ∧ (∃ k, n = k + 1) ∧ m + 1 ≤ n + q ∧ q ≤ m ∧ vs.length ≤ q ∧ R = go n vs q := by
 have hb' : b = 0 := by simpa using hb
 rcases h with ⟨h1, h2, h3, h4, h5, h6, h7⟩ | ⟨h1, _⟩
 ·exact ⟨h2, h1, ⟨n - 1, by omega⟩, h4, h5, h6, h7⟩
 ·exact absurd hb' h1
theorem Loop.stop {α β : Type} {R : Ans8 (β × Nat)} {go : Nat → List α → Nat → Ans8 (β × Nat)} {m n : Nat} {vs : List α} {q a b : Nat} (h : Loop R go m n vs q a b) (hb : decide ((b : Int) = 0) = false) : b ≠ 0 ∧ vs.length ≤ m + 1 ∧ R = .error (a, b) := by
 have hb' : ¬ b = 0 := by simpa using hb
 rcases h with ⟨h1, _⟩ | h
 ·exact absurd h1 hb'
 ·exact h
abbrev enmGo (l : List Tk) (x : Tk) (n : Nat) (vs : List Val) (q : Nat) : Ans8 (Enm × Nat) :=
 match sVals l n vs q with
 | .error e => .error e
 | .ok (vs, r) => .ok (⟨x.1.t, vs, x.2.1, x.2.2⟩, r)
set_option maxRecDepth 100000 in
set_option maxHeartbeats 4000000 in
theorem enum_y (l : List Tk) (hl : TksOk l) (p : Nat) (hp : p ≤ 100000) : EFx Tryz.prog [] 62 [tksP l, iP p] (RY eQ (sEnum l p)) := by
 refine ef_enter 120 Tryz.func62 rfl rfl rfl fun w D => ?_
 try refine e_fl ?_
 have hll := hl.len
 refine e_list ?_
 refine e_alloc 4 [.is (.string ⟨#[]⟩), .is (.slice none 0 0), .is (.int .i64 0), .is (.int .i64 0)] rfl rfl rfl rfl zr_72 (fun w D M V => ⟨rfl, fun j x v h1 h2 => cfit_is _ h1 h2 rfl⟩) rfl rfl rfl rfl ?_
 refine l_as ?_
 refine e_alloc 6 [.is (.int .i64 0), .is (.int .i64 0)] rfl rfl rfl rfl zr_102 (fun w D M V => ⟨rfl, fun j x v h1 h2 => cfit_is _ h1 h2 rfl⟩) rfl rfl rfl rfl ?_
 refine e_nil ?_
 try refine e_fl ?_
 refine e_list ?_
 refine l_mv ?_
 refine l_mv ?_
 refine e_list_call rfl rfl rfl rfl (by kernel_rfl) (head_y l hl p hp) ⟨(kn rfl), ⟨(kn rfl), trivial⟩⟩ ?_
 rintro _ ⟨x, q0, a0, b0, rfl, hr0⟩
 refine l_mv ?_
 refine l_ex ?_
 refine l_ex ?_
 refine l_ex ?_
 refine e_alloc 7 [.is (.int .i64 0), .is (.string ⟨#[]⟩), .is (.int .i64 0), .is (.int .i64 0), .is (.int .i64 0)] rfl rfl rfl rfl zr_97 (fun w D M V => ⟨rfl, fun j x v h1 h2 => cfit_is _ h1 h2 rfl⟩) rfl rfl rfl rfl ?_
 refine e_alloc 8 [.is (.int .i64 0), .is (.int .i64 0)] rfl rfl rfl rfl zr_102 (fun w D M V => ⟨rfl, fun j x v h1 h2 => cfit_is _ h1 h2 rfl⟩) rfl rfl rfl rfl ?_
 refine e_storew rfl rfl rfl (kn rfl) rfl (kn rfl) rfl rfl sz_97 ?_
 refine l_as ?_
 refine e_storew rfl rfl rfl (kn rfl) rfl (kn rfl) rfl rfl sz_102 ?_
 refine e_nil ?_
 try refine e_fl ?_
 refine e_list ?_
 refine l_op (s_faddr_box rfl (kn rfl) off_97_1) ?_
 refine l_op (s_load1_box rfl (kn rfl) rfl rfl one_9) ?_
 refine l_op (s_faddr_box rfl (kn rfl) off_97_3) ?_
 refine l_op (s_load1_box rfl (kn rfl) rfl rfl one_3) ?_
 refine l_op (s_faddr_box rfl (kn rfl) off_97_4) ?_
 refine l_op (s_load1_box rfl (kn rfl) rfl rfl one_3) ?_
 refine l_op (s_build (ds := [_, _, _, _]) [(0, _), (2, _), (3, _)] rfl ⟨rfl, (kn rfl), ⟨rfl, (kn rfl), ⟨rfl, (kn rfl), trivial⟩⟩⟩ rfl pl_72 zr_72 (fun w D => .cons (.cell _) (.cons (.cell _) (.cons (.cell _) (.cons (.cell _) (.nil _ _))))) rfl) ?_
 refine e_alloc 9 [.is (.string ⟨#[]⟩), .is (.slice none 0 0), .is (.int .i64 0), .is (.int .i64 0)] rfl rfl rfl rfl zr_72 (fun w D M V => ⟨rfl, fun j x v h1 h2 => cfit_is _ h1 h2 rfl⟩) rfl rfl rfl rfl ?_
 refine e_storew rfl rfl rfl (kn rfl) rfl (kn rfl) rfl rfl sz_72 ?_
 refine e_nil ?_
 try refine e_fl ?_
 refine e_row_cell 9 1 100 116 4 rfl rfl rfl rfl rfl ?_
 refine e_loop (ι := { i : Nat × List Val × Nat × Nat × Nat // Loop (sEnum l p) (enmGo l x) l.length i.1 i.2.1 i.2.2.1 i.2.2.2.1 i.2.2.2.2 })
  (fun i => [(0, .part (tksP l)), (1, .is (.int .i64 (i.1.2.2.1 : Int))), (4, .box 4 0), (5, .is (.int .i64 0)), (6, .box 6 0), (8, .box 8 0), (9, .box 9 0)])
  (fun i => [(4, ⟨72, [.is (.string ⟨#[]⟩), .is (.slice none 0 0), .is (.int .i64 0), .is (.int .i64 0)]⟩), (6, ⟨102, [.is (.int .i64 0), .is (.int .i64 0)]⟩), (8, ⟨102, [.is (.int .i64 (i.1.2.2.2.1 : Int)), .is (.int .i64 (i.1.2.2.2.2 : Int))]⟩), (9, ⟨72, [.is (.string (str x.1.t)), .own 100, .is (.int .i64 (x.2.1 : Int)), .is (.int .i64 (x.2.2 : Int))]⟩)])
  (fun i => [(100, ⟨116, 4, i.1.2.1.length, i.1.2.1.flatMap Val.dats, false⟩)])
  (fun i => if i.1.2.2.2.2 = 0 then i.1.1 + 1 else 0) ⟨(l.length + 1, [], q0, a0, b0), by
   dsimp only
   rcases hr0 with ⟨h1, h2, h3⟩ | ⟨h1, h3⟩
   ·have h4 := sHead_ok h3
    exact .inl ⟨h1, h2, by omega, by omega, by omega, by simp, by simp only [sEnum, h3]; rfl⟩
   ·exact .inr ⟨h1, by simp, by simp only [sEnum, h3]⟩⟩
  (fun K => e_sub ⟨s_t, s_t, s_t, s_t, s_t, s_t, s_t, trivial⟩ ⟨s_b, s_b, s_b, s_b, trivial⟩ ⟨rfl, trivial⟩) ?_
 rintro ⟨⟨n, vs, q, a, b⟩, hi⟩
 dsimp only at hi ⊢
 try refine e_fl ?_
 refine e_plain (w_op rfl rfl rfl (s_faddr_box rfl (kn rfl) off_102_1) (w_op rfl rfl rfl (s_load1_box rfl (kn rfl) rfl rfl one_3) (w_op rfl rfl rfl (s_bin rfl (kn rfl) (kn rfl) v_eql) .nil))) ?_
 try refine e_fl ?_
 refine e_cond rfl (fun h => ?_) (fun h => ?_)
 ·obtain ⟨rfl, rfl, ⟨k, rfl⟩, hn1, hq, hv, hw⟩ := hi.go h
  have hs := semis_le hq
  try refine e_fl ?_
  refine e_plain (w_mv rfl rfl rfl rfl rfl (w_mv rfl rfl rfl rfl rfl (w_op rfl rfl rfl (s_call rfl (by kernel_rfl) (semis_ef l hl q (by omega)) ⟨(kn rfl), ⟨(kn rfl), trivial⟩⟩) (w_as rfl rfl rfl rfl rfl .nil)))) ?_
  try refine e_fl ?_
  refine e_plain (w_mv rfl rfl rfl rfl rfl (w_mv rfl rfl rfl rfl rfl (w_op rfl rfl rfl (s_call rfl (by kernel_rfl) (is_ef l (semis l q) 4 [125]) ⟨(kn rfl), ⟨(kn rfl), ⟨(kn rfl), ⟨(kn rfl), trivial⟩⟩⟩⟩) .nil))) ?_
  try refine e_fl ?_
  refine e_cond rfl (fun hc => ?_) (fun hc => ?_)
  ·have hlt := tkIs_lt hc
   try refine e_fl ?_
   refine e_plain (w_op rfl rfl rfl (s_faddr_box rfl (kn rfl) off_72_1) (w_op rfl rfl rfl (s_load1_box rfl (kn rfl) rfl rfl one_70) (w_op rfl rfl rfl (s_len_own rfl (kn rfl) rfl sle_70) (w_op rfl rfl rfl (s_bin rfl (kn rfl) (kn rfl) v_eql) .nil)))) ?_
   try refine e_fl ?_
   refine e_cond rfl (fun h1 => ?_) (fun h1 => ?_)
   ·rw [lnil] at h1
    obtain rfl : vs = [] := List.length_eq_zero_iff.1 (of_decide_eq_true h1)
    try refine e_fl ?_
    refine e_freeze_cell 9 1 100 rfl rfl rfl rfl rfl ?_
    refine e_draw_mix [(4, _), (6, _)] mixed (by kernel_rfl) (WalkM.op rfl rfl rfl (s_loadn_box (ds := [_, _, _, _]) 4 rfl (kn rfl) rfl rfl agg_72 sz_72 rfl) (WalkM.op rfl rfl rfl (s_move rfl (kn rfl)) (WalkM.op rfl rfl rfl (s_move rfl (kn rfl)) (WalkM.op rfl rfl rfl (s_call rfl (by kernel_rfl) (bad_ef (semis l q)) ⟨(kn rfl), trivial⟩) (WalkM.stw rfl rfl rfl (kn rfl) rfl rfl (kn rfl) rfl rfl rfl sz_72 (WalkM.op rfl rfl rfl (s_assign rfl (kn rfl)) (WalkM.stw rfl rfl rfl (kn rfl) rfl rfl (kn rfl) rfl rfl rfl sz_102 (WalkM.nil)))))))) rfl ?_
    try refine e_fl ?_
    exact e_return rfl rfl (.cell rfl rfl rfl agg_72 sz_72 rfl (.tmp (kn rfl) (.cell rfl rfl rfl agg_102 sz_102 rfl (.nil)))) (Imp.refl _) (⟨⟨x.1.t, [], x.2.1, x.2.2⟩, semis l q, semis l q, 9, rfl, .ill (by decide) (by simp only [hw, enmGo, sVals, hc]; rfl)⟩)
   ·rw [lnil] at h1
    have h2 : ¬ vs = [] := fun e => by
     subst e
     cases h1
    try refine e_fl ?_
    refine e_freeze_cell 9 1 100 rfl rfl rfl rfl rfl ?_
    refine e_list ?_
    refine l_op (s_loadn_box (ds := [_, _, _, _]) 4 rfl (kn rfl) rfl rfl agg_72 sz_72 rfl) ?_
    refine l_mv ?_
    refine l_op (s_bin rfl (kn rfl) (kn rfl) (v_add64 (by first | omega | (dsimp only; omega) | omega))) ?_
    refine l_op (s_build (ds := [_, _]) [] rfl trivial rfl pl_102 zr_102 (fun w D => .cons (.cell _) (.cons (.cell _) (.nil _ _))) rfl) ?_
    refine e_storew rfl rfl rfl (kn rfl) rfl (kn rfl) rfl rfl sz_72 ?_
    refine l_as ?_
    refine e_storew rfl rfl rfl (kn rfl) rfl (kn rfl) rfl rfl sz_102 ?_
    refine e_nil ?_
    try refine e_fl ?_
    exact e_return rfl rfl (.cell rfl rfl rfl agg_72 sz_72 rfl (.tmp (kn rfl) (.cell rfl rfl rfl agg_102 sz_102 rfl (.nil)))) (Imp.refl _) (⟨⟨x.1.t, vs, x.2.1, x.2.2⟩, semis l q + 1, 0, 0, rfl, .good (by simp only [hw, enmGo, sVals, hc, if_neg h2]; rfl)⟩)
  ·try refine e_fl ?_
   refine e_list ?_
   refine e_alloc 10 [.is (.int .i64 0), .is (.string ⟨#[]⟩), .is (.int .i64 0), .is (.int .i64 0), .is (.int .i64 0)] rfl rfl rfl rfl zr_97 (fun w D M V => ⟨rfl, fun j x v h1 h2 => cfit_is _ h1 h2 rfl⟩) rfl rfl rfl rfl ?_
   refine e_nil ?_
   try refine e_fl ?_
   refine e_list ?_
   refine l_mv ?_
   refine l_mv ?_
   refine e_list_call rfl rfl rfl rfl (by kernel_rfl) (name_y l hl (semis l q)) ⟨(kn rfl), ⟨(kn rfl), trivial⟩⟩ ?_
   rintro _ ⟨y0, r, a, b, rfl, hr⟩
   refine l_mv ?_
   refine l_ex ?_
   refine l_ex ?_
   refine l_ex ?_
   refine e_storew rfl rfl rfl (kn rfl) rfl (kn rfl) rfl rfl sz_97 ?_
   refine l_as ?_
   refine e_storew rfl rfl rfl (kn rfl) rfl (kn rfl) rfl rfl sz_102 ?_
   refine e_nil ?_
   try refine e_fl ?_
   refine e_plain (w_op rfl rfl rfl (s_faddr_box rfl (kn rfl) off_102_1) (w_op rfl rfl rfl (s_load1_box rfl (kn rfl) rfl rfl one_3) (w_op rfl rfl rfl (s_bin rfl (kn rfl) (kn rfl) v_neq) .nil))) ?_
   try refine e_fl ?_
   refine e_cond rfl (fun h => ?_) (fun h => ?_)
   ·obtain ⟨hb, he⟩ := hr.bad h
    try refine e_fl ?_
    refine e_freeze_cell 9 1 100 rfl rfl rfl rfl rfl ?_
    refine e_draw_mix [(4, _), (6, _)] mixed (by kernel_rfl) (WalkM.op rfl rfl rfl (s_loadn_box (ds := [_, _, _, _]) 4 rfl (kn rfl) rfl rfl agg_72 sz_72 rfl) (WalkM.op rfl rfl rfl (s_move rfl (kn rfl)) (WalkM.op rfl rfl rfl (s_loadn_box (ds := [_, _]) 2 rfl (kn rfl) rfl rfl agg_102 sz_102 rfl) (WalkM.stw rfl rfl rfl (kn rfl) rfl rfl (kn rfl) rfl rfl rfl sz_72 (WalkM.op rfl rfl rfl (s_assign rfl (kn rfl)) (WalkM.stw rfl rfl rfl (kn rfl) rfl rfl (kn rfl) rfl rfl rfl sz_102 (WalkM.nil))))))) rfl ?_
    try refine e_fl ?_
    exact e_return rfl rfl (.cell rfl rfl rfl agg_72 sz_72 rfl (.tmp (kn rfl) (.cell rfl rfl rfl agg_102 sz_102 rfl (.nil)))) (Imp.refl _) (⟨⟨x.1.t, vs, x.2.1, x.2.2⟩, r, a, b, rfl, .ill hb (by simp only [hw, enmGo, sVals, hc, sValue,  he]; rfl)⟩)
   obtain ⟨rfl, rfl, hn⟩ := hr.ok h
   try refine e_fl ?_
   have hn2 := sName_ok hn
   refine e_list ?_
   refine l_mv ?_
   refine l_mv ?_
   refine l_op (s_buildSlice (ds := [_]) [(0, _)] rfl ⟨rfl, (kn rfl), trivial⟩ rfl sl_49 sz_9 zr_9 (fun w D => .cons (.cell _) (.nil _ _)) rfl rfl rfl rfl rfl) ?_
   refine e_list_call rfl rfl rfl rfl (by kernel_rfl) (want1 l hl 4 [61] rfl (by simp) r (by omega)) ⟨(kn rfl), ⟨(kn rfl), ⟨(kn rfl), trivial⟩⟩⟩ ?_
   rintro _ ⟨t, a, b, rfl, hr⟩
   refine l_mv ?_
   refine l_ex ?_
   refine l_ex ?_
   refine l_as ?_
   refine e_storew rfl rfl rfl (kn rfl) rfl (kn rfl) rfl rfl sz_102 ?_
   refine e_nil ?_
   try refine e_fl ?_
   refine e_plain (w_op rfl rfl rfl (s_faddr_box rfl (kn rfl) off_102_1) (w_op rfl rfl rfl (s_load1_box rfl (kn rfl) rfl rfl one_3) (w_op rfl rfl rfl (s_bin rfl (kn rfl) (kn rfl) v_neq) .nil))) ?_
   try refine e_fl ?_
   refine e_cond rfl (fun h => ?_) (fun h => ?_)
   ·obtain ⟨hb, he⟩ := hr.bad h
    try refine e_fl ?_
    refine e_freeze_cell 9 1 100 rfl rfl rfl rfl rfl ?_
    refine e_draw_mix [(4, _), (6, _)] mixed (by kernel_rfl) (WalkM.op rfl rfl rfl (s_loadn_box (ds := [_, _, _, _]) 4 rfl (kn rfl) rfl rfl agg_72 sz_72 rfl) (WalkM.op rfl rfl rfl (s_move rfl (kn rfl)) (WalkM.op rfl rfl rfl (s_loadn_box (ds := [_, _]) 2 rfl (kn rfl) rfl rfl agg_102 sz_102 rfl) (WalkM.stw rfl rfl rfl (kn rfl) rfl rfl (kn rfl) rfl rfl rfl sz_72 (WalkM.op rfl rfl rfl (s_assign rfl (kn rfl)) (WalkM.stw rfl rfl rfl (kn rfl) rfl rfl (kn rfl) rfl rfl rfl sz_102 (WalkM.nil))))))) rfl ?_
    try refine e_fl ?_
    exact e_return rfl rfl (.cell rfl rfl rfl agg_72 sz_72 rfl (.tmp (kn rfl) (.cell rfl rfl rfl agg_102 sz_102 rfl (.nil)))) (Imp.refl _) (⟨⟨x.1.t, vs, x.2.1, x.2.2⟩, t, a, b, rfl, .ill hb (by simp only [hw, enmGo, sVals, hc, sValue, hn, he]; rfl)⟩)
   obtain ⟨rfl, rfl, ho⟩ := hr.ok h
   try refine e_fl ?_
   have ho1 := sWant_ok ho
   refine e_list ?_
   refine l_op (s_faddr_box rfl (kn rfl) off_97_1) ?_
   refine l_op (s_load1_box rfl (kn rfl) rfl rfl one_9) ?_
   refine l_op (s_faddr_box rfl (kn rfl) off_97_3) ?_
   refine l_op (s_load1_box rfl (kn rfl) rfl rfl one_3) ?_
   refine l_op (s_faddr_box rfl (kn rfl) off_97_4) ?_
   refine l_op (s_load1_box rfl (kn rfl) rfl rfl one_3) ?_
   refine l_op (s_build (ds := [_, _, _, _]) [(0, _), (2, _), (3, _)] rfl ⟨rfl, (kn rfl), ⟨rfl, (kn rfl), ⟨rfl, (kn rfl), trivial⟩⟩⟩ rfl pl_116 zr_116 (fun w D => .cons (.cell _) (.cons (.cell _) (.cons (.cell _) (.cons (.cell _) (.nil _ _))))) rfl) ?_
   refine e_alloc 11 [.is (.string ⟨#[]⟩), .is (.int .i64 0), .is (.int .i64 0), .is (.int .i64 0)] rfl rfl rfl rfl zr_116 (fun w D M V => ⟨rfl, fun j x v h1 h2 => cfit_is _ h1 h2 rfl⟩) rfl rfl rfl rfl ?_
   refine e_storew rfl rfl rfl (kn rfl) rfl (kn rfl) rfl rfl sz_116 ?_
   refine e_nil ?_
   try refine e_fl ?_
   refine e_plain (w_as rfl rfl rfl rfl rfl .nil) ?_
   try refine e_fl ?_
   refine e_plain (w_mv rfl rfl rfl rfl rfl (w_mv rfl rfl rfl rfl rfl (w_op rfl rfl rfl (s_call rfl (by kernel_rfl) (is_ef l t 4 [45]) ⟨(kn rfl), ⟨(kn rfl), ⟨(kn rfl), ⟨(kn rfl), trivial⟩⟩⟩⟩) .nil))) ?_
   try refine e_fl ?_
   refine e_cond rfl (fun hm => ?_) (fun hm => ?_)
   ·have hlt := tkIs_lt hm
    try refine e_fl ?_
    refine e_plain (w_as rfl rfl rfl rfl rfl .nil) ?_
    try refine e_fl ?_
    refine e_plain (w_mv rfl rfl rfl rfl rfl (w_op rfl rfl rfl (s_bin rfl (kn rfl) (kn rfl) (v_add64 (by first | omega | (dsimp only; omega) | omega))) (w_as rfl rfl rfl rfl rfl .nil))) ?_
    try refine e_fl ?_
    refine e_plain (w_as rfl rfl rfl rfl rfl .nil) ?_
    try refine e_fl ?_
    refine e_list ?_
    refine l_mv ?_
    refine l_mv ?_
    refine e_list_call rfl rfl rfl rfl (by kernel_rfl) (number_y l hl (t + 1)) ⟨(kn rfl), ⟨(kn rfl), trivial⟩⟩ ?_
    rintro _ ⟨z, s, a, b, rfl, hr⟩
    refine l_mv ?_
    refine l_ex ?_
    refine l_ex ?_
    refine l_ex ?_
    refine l_as ?_
    refine l_as ?_
    refine e_storew rfl rfl rfl (kn rfl) rfl (kn rfl) rfl rfl sz_102 ?_
    refine e_nil ?_
    try refine e_fl ?_
    refine e_plain (w_op rfl rfl rfl (s_faddr_box rfl (kn rfl) off_102_1) (w_op rfl rfl rfl (s_load1_box rfl (kn rfl) rfl rfl one_3) (w_op rfl rfl rfl (s_bin rfl (kn rfl) (kn rfl) v_neq) .nil))) ?_
    try refine e_fl ?_
    refine e_cond rfl (fun h => ?_) (fun h => ?_)
    ·obtain ⟨hb, he⟩ := hr.bad h
     try refine e_fl ?_
     refine e_freeze_cell 9 1 100 rfl rfl rfl rfl rfl ?_
     refine e_draw_mix [(4, _), (6, _)] mixed (by kernel_rfl) (WalkM.op rfl rfl rfl (s_loadn_box (ds := [_, _, _, _]) 4 rfl (kn rfl) rfl rfl agg_72 sz_72 rfl) (WalkM.op rfl rfl rfl (s_move rfl (kn rfl)) (WalkM.op rfl rfl rfl (s_loadn_box (ds := [_, _]) 2 rfl (kn rfl) rfl rfl agg_102 sz_102 rfl) (WalkM.stw rfl rfl rfl (kn rfl) rfl rfl (kn rfl) rfl rfl rfl sz_72 (WalkM.op rfl rfl rfl (s_assign rfl (kn rfl)) (WalkM.stw rfl rfl rfl (kn rfl) rfl rfl (kn rfl) rfl rfl rfl sz_102 (WalkM.nil))))))) rfl ?_
     try refine e_fl ?_
     exact e_return rfl rfl (.cell rfl rfl rfl agg_72 sz_72 rfl (.tmp (kn rfl) (.cell rfl rfl rfl agg_102 sz_102 rfl (.nil)))) (Imp.refl _) (⟨⟨x.1.t, vs, x.2.1, x.2.2⟩, s, a, b, rfl, .ill hb (by simp only [hw, enmGo, sVals, hc, sValue, hn, ho, hm, if_true, he]; rfl)⟩)
    obtain ⟨rfl, rfl, hz⟩ := hr.ok h
    try refine e_fl ?_
    have hz1 := sNumber_ok hz
    obtain ⟨y, hy, hz2⟩ := hz1.2.2
    have hz3 := hl.num (t + 1)
    rw [tkAt_of hy] at hz3
    refine e_list ?_
    refine l_mv ?_
    refine l_mv ?_
    refine l_op (s_bin rfl (kn rfl) (kn rfl) (v_mul64 (by first | omega | (dsimp only; omega) | omega))) ?_
    refine l_op (s_faddr_box rfl (kn rfl) off_116_1) ?_
    refine e_store1 rfl rfl rfl (kn rfl) rfl (kn rfl) rfl rfl sz_3 rfl ?_
    refine e_nil ?_
    try refine e_fl ?_
    refine e_list ?_
    refine l_mv ?_
    refine l_mv ?_
    refine l_op (s_buildSlice (ds := [_]) [(0, _)] rfl ⟨rfl, (kn rfl), trivial⟩ rfl sl_49 sz_9 zr_9 (fun w D => .cons (.cell _) (.nil _ _)) rfl rfl rfl rfl rfl) ?_
    refine e_list_call rfl rfl rfl rfl (by kernel_rfl) (want1 l hl 4 [59] rfl (by simp) s (by omega)) ⟨(kn rfl), ⟨(kn rfl), ⟨(kn rfl), trivial⟩⟩⟩ ?_
    rintro _ ⟨u, a, b, rfl, hr⟩
    refine l_mv ?_
    refine l_ex ?_
    refine l_ex ?_
    refine l_as ?_
    refine e_storew rfl rfl rfl (kn rfl) rfl (kn rfl) rfl rfl sz_102 ?_
    refine e_nil ?_
    try refine e_fl ?_
    refine e_list ?_
    refine l_op (s_faddr_box rfl (kn rfl) off_72_1) ?_
    refine l_op (s_load1_box rfl (kn rfl) rfl rfl one_70) ?_
    refine l_op (s_loadn_box (ds := [_, _, _, _]) 4 rfl (kn rfl) rfl rfl agg_116 sz_116 rfl) ?_
    refine l_op (s_buildSlice (ds := [_, _, _, _]) [(0, _)] rfl ⟨rfl, (kn rfl), trivial⟩ rfl sl_70 sz_116 zr_116 (fun w D => .cons (.cell _) (.cons (.cell _) (.cons (.cell _) (.cons (.cell _) (.nil _ _))))) rfl rfl rfl rfl rfl) ?_
    refine e_append rfl rfl rfl rfl (kn rfl) rfl (kn rfl) sl_70 ap_70 rfl rfl (by first | omega | (dsimp only; omega) | omega) (by first | omega | (dsimp only; omega) | omega) ?_
    refine l_op (s_faddr_box rfl (kn rfl) off_72_1) ?_
    refine e_store_own rfl rfl rfl (kn rfl) rfl (kn rfl) rfl rfl sz_70 rfl ?_
    refine e_nil ?_
    try refine e_fl ?_
    refine e_again ⟨(k, vs ++ [⟨y0.1.t, (-1) * z, y0.2.1, y0.2.2⟩], u, a, b), by
      dsimp only
      rcases hr with ⟨h1, h2, h3⟩ | ⟨h1, h3⟩
      ·have h4 := sWant_ok h3
       refine .inl ⟨h1, h2, by omega, by omega, by omega, by simp only [List.length_append, List.length_cons, List.length_nil]; omega, ?_⟩
       simp only [hw, enmGo, sVals, hc, sValue, hn, ho, hm, if_true, hz, h3, Int.neg_mul, Int.one_mul]
       rfl
      ·refine .inr ⟨h1, by simp only [List.length_append, List.length_cons, List.length_nil]; omega, ?_⟩
       simp only [hw, enmGo, sVals, hc, sValue, hn, ho, hm, if_true, hz, h3]
       rfl⟩ (by dsimp only; rw [if_pos (show (0 : Nat) = 0 from rfl)]; split <;> omega) (fun K => e_sub ⟨s_t, s_t, s_t, s_t, s_t, s_t, s_t, trivial⟩ ⟨s_b, s_b, s_b, s_b, trivial⟩ ⟨by first | rfl | exact rowEq rfl (by simp) (by simp [List.flatMap_append, Val.dats, Val.cells]), trivial⟩)
   ·try refine e_fl ?_
    refine e_plain (w_as rfl rfl rfl rfl rfl .nil) ?_
    try refine e_fl ?_
    refine e_list ?_
    refine l_mv ?_
    refine l_mv ?_
    refine e_list_call rfl rfl rfl rfl (by kernel_rfl) (number_y l hl (t)) ⟨(kn rfl), ⟨(kn rfl), trivial⟩⟩ ?_
    rintro _ ⟨z, s, a, b, rfl, hr⟩
    refine l_mv ?_
    refine l_ex ?_
    refine l_ex ?_
    refine l_ex ?_
    refine l_as ?_
    refine l_as ?_
    refine e_storew rfl rfl rfl (kn rfl) rfl (kn rfl) rfl rfl sz_102 ?_
    refine e_nil ?_
    try refine e_fl ?_
    refine e_plain (w_op rfl rfl rfl (s_faddr_box rfl (kn rfl) off_102_1) (w_op rfl rfl rfl (s_load1_box rfl (kn rfl) rfl rfl one_3) (w_op rfl rfl rfl (s_bin rfl (kn rfl) (kn rfl) v_neq) .nil))) ?_
    try refine e_fl ?_
    refine e_cond rfl (fun h => ?_) (fun h => ?_)
    ·obtain ⟨hb, he⟩ := hr.bad h
     try refine e_fl ?_
     refine e_freeze_cell 9 1 100 rfl rfl rfl rfl rfl ?_
     refine e_draw_mix [(4, _), (6, _)] mixed (by kernel_rfl) (WalkM.op rfl rfl rfl (s_loadn_box (ds := [_, _, _, _]) 4 rfl (kn rfl) rfl rfl agg_72 sz_72 rfl) (WalkM.op rfl rfl rfl (s_move rfl (kn rfl)) (WalkM.op rfl rfl rfl (s_loadn_box (ds := [_, _]) 2 rfl (kn rfl) rfl rfl agg_102 sz_102 rfl) (WalkM.stw rfl rfl rfl (kn rfl) rfl rfl (kn rfl) rfl rfl rfl sz_72 (WalkM.op rfl rfl rfl (s_assign rfl (kn rfl)) (WalkM.stw rfl rfl rfl (kn rfl) rfl rfl (kn rfl) rfl rfl rfl sz_102 (WalkM.nil))))))) rfl ?_
     try refine e_fl ?_
     exact e_return rfl rfl (.cell rfl rfl rfl agg_72 sz_72 rfl (.tmp (kn rfl) (.cell rfl rfl rfl agg_102 sz_102 rfl (.nil)))) (Imp.refl _) (⟨⟨x.1.t, vs, x.2.1, x.2.2⟩, s, a, b, rfl, .ill hb (by simp only [hw, enmGo, sVals, hc, sValue, hn, ho, hm, he]; rfl)⟩)
    obtain ⟨rfl, rfl, hz⟩ := hr.ok h
    try refine e_fl ?_
    have hz1 := sNumber_ok hz
    obtain ⟨y, hy, hz2⟩ := hz1.2.2
    have hz3 := hl.num (t)
    rw [tkAt_of hy] at hz3
    refine e_list ?_
    refine l_mv ?_
    refine l_mv ?_
    refine l_op (s_bin rfl (kn rfl) (kn rfl) (v_mul64 (by first | omega | (dsimp only; omega) | omega))) ?_
    refine l_op (s_faddr_box rfl (kn rfl) off_116_1) ?_
    refine e_store1 rfl rfl rfl (kn rfl) rfl (kn rfl) rfl rfl sz_3 rfl ?_
    refine e_nil ?_
    try refine e_fl ?_
    refine e_list ?_
    refine l_mv ?_
    refine l_mv ?_
    refine l_op (s_buildSlice (ds := [_]) [(0, _)] rfl ⟨rfl, (kn rfl), trivial⟩ rfl sl_49 sz_9 zr_9 (fun w D => .cons (.cell _) (.nil _ _)) rfl rfl rfl rfl rfl) ?_
    refine e_list_call rfl rfl rfl rfl (by kernel_rfl) (want1 l hl 4 [59] rfl (by simp) s (by omega)) ⟨(kn rfl), ⟨(kn rfl), ⟨(kn rfl), trivial⟩⟩⟩ ?_
    rintro _ ⟨u, a, b, rfl, hr⟩
    refine l_mv ?_
    refine l_ex ?_
    refine l_ex ?_
    refine l_as ?_
    refine e_storew rfl rfl rfl (kn rfl) rfl (kn rfl) rfl rfl sz_102 ?_
    refine e_nil ?_
    try refine e_fl ?_
    refine e_list ?_
    refine l_op (s_faddr_box rfl (kn rfl) off_72_1) ?_
    refine l_op (s_load1_box rfl (kn rfl) rfl rfl one_70) ?_
    refine l_op (s_loadn_box (ds := [_, _, _, _]) 4 rfl (kn rfl) rfl rfl agg_116 sz_116 rfl) ?_
    refine l_op (s_buildSlice (ds := [_, _, _, _]) [(0, _)] rfl ⟨rfl, (kn rfl), trivial⟩ rfl sl_70 sz_116 zr_116 (fun w D => .cons (.cell _) (.cons (.cell _) (.cons (.cell _) (.cons (.cell _) (.nil _ _))))) rfl rfl rfl rfl rfl) ?_
    refine e_append rfl rfl rfl rfl (kn rfl) rfl (kn rfl) sl_70 ap_70 rfl rfl (by first | omega | (dsimp only; omega) | omega) (by first | omega | (dsimp only; omega) | omega) ?_
    refine l_op (s_faddr_box rfl (kn rfl) off_72_1) ?_
    refine e_store_own rfl rfl rfl (kn rfl) rfl (kn rfl) rfl rfl sz_70 rfl ?_
    refine e_nil ?_
    try refine e_fl ?_
    refine e_again ⟨(k, vs ++ [⟨y0.1.t, 1 * z, y0.2.1, y0.2.2⟩], u, a, b), by
      dsimp only
      rcases hr with ⟨h1, h2, h3⟩ | ⟨h1, h3⟩
      ·have h4 := sWant_ok h3
       refine .inl ⟨h1, h2, by omega, by omega, by omega, by simp only [List.length_append, List.length_cons, List.length_nil]; omega, ?_⟩
       simp only [hw, enmGo, sVals, hc, sValue, hn, ho, hm, hz, h3, Int.one_mul]
       rfl
      ·refine .inr ⟨h1, by simp only [List.length_append, List.length_cons, List.length_nil]; omega, ?_⟩
       simp only [hw, enmGo, sVals, hc, sValue, hn, ho, hm, hz, h3]
       rfl⟩ (by dsimp only; rw [if_pos (show (0 : Nat) = 0 from rfl)]; split <;> omega) (fun K => e_sub ⟨s_t, s_t, s_t, s_t, s_t, s_t, s_t, trivial⟩ ⟨s_b, s_b, s_b, s_b, trivial⟩ ⟨by first | rfl | exact rowEq rfl (by simp) (by simp [List.flatMap_append, Val.dats, Val.cells]), trivial⟩)
 ·obtain ⟨hb, hv, hw⟩ := hi.stop h
  try refine e_fl ?_
  refine e_freeze_cell 9 1 100 rfl rfl rfl rfl rfl ?_
  refine e_draw_mix [(4, _), (6, _)] mixed (by kernel_rfl) (WalkM.op rfl rfl rfl (s_loadn_box (ds := [_, _, _, _]) 4 rfl (kn rfl) rfl rfl agg_72 sz_72 rfl) (WalkM.op rfl rfl rfl (s_move rfl (kn rfl)) (WalkM.op rfl rfl rfl (s_loadn_box (ds := [_, _]) 2 rfl (kn rfl) rfl rfl agg_102 sz_102 rfl) (WalkM.stw rfl rfl rfl (kn rfl) rfl rfl (kn rfl) rfl rfl rfl sz_72 (WalkM.op rfl rfl rfl (s_assign rfl (kn rfl)) (WalkM.stw rfl rfl rfl (kn rfl) rfl rfl (kn rfl) rfl rfl rfl sz_102 (WalkM.nil))))))) rfl ?_
  try refine e_fl ?_
  exact e_return rfl rfl (.cell rfl rfl rfl agg_72 sz_72 rfl (.tmp (kn rfl) (.cell rfl rfl rfl agg_102 sz_102 rfl (.nil)))) (Imp.refl _) (⟨⟨x.1.t, vs, x.2.1, x.2.2⟩, q, a, b, rfl, .ill hb hw⟩)
end Go.Proofs.YtfcjeciepadmeaaGreatDoor
