/- Part 21 of what the last text of this claim is proved by: walks over the program, and the math behind them. Conditions: as each theorem says. -/
import Derived.Test.YtekeanikgcpijaaDoorSO20
import Derived.Test.YtekeanikgcpijaaDoorProg
namespace Go.Proofs.YtekeanikgcpijaaDoor
open Go.RowKit
abbrev oB (l : List Tk) (which : Int) (m : Msg) (q : Nat) : BL := [(4, ptX), (5, mpX), (8, fX (fld0 1 which)), (1, pX l q), (3, pmX m)]
abbrev OE (l : List Tk) (E8 E9 : Er) (which : Int) (r : Ans8 (Msg × Nat)) (y : IV) (B1 : BL) (R1 : RL) : Prop := ME l E8 E9 (oB l which) pmR r y B1 R1
theorem OE.tidy {l : List Tk} {E8 E9 : Er} {which : Int} {r : Ans8 (Msg × Nat)} {m : Msg} {q : Nat} (y : IV) (B1 : BL) (R1 : RL) (h : OE l E8 E9 which r y B1 R1) : Tidy (oB l which m q) (pmR m) y B1 R1 := by
 rcases h with ⟨a, b, z, x, _, rfl, rfl, rfl⟩ | ⟨x, z, _, rfl, rfl, rfl⟩ <;> exact ⟨rfl, rfl, rfl, rfl⟩
def pOne (l : List Tk) (which : Int) (m : Msg) (p : Nat) : Ans8 (Msg × Nat) := withFld m (sField l p 1 which)
theorem withFld_ok {m x : Msg} {r : Ans8 (Fld × Nat)} {z : Nat} (h : withFld m r = .ok (x, z)) : ∃ g, r = .ok (g, z) ∧ x = m.addField g := by
 unfold withFld at h
 split at h
 ·cases h
 ·rename_i g q
  injection h with h
  injection h with h1 h2
  subst h1 h2
  exact ⟨g, rfl, rfl⟩
theorem small_fld {m : Msg} {g : Fld} {y z : Nat} (h : Small m y) (hz : y + 1 ≤ z) : Small (m.addField g) z := by
 obtain ⟨nm, fs, os, ms, es, rs, ns, ln, cl⟩ := m
 obtain ⟨a1, a2, a3, a4, a5, a6⟩ := h
 simp only [Msg.fields, Msg.oneofs, Msg.msgs, Msg.enums, Msg.reserved, Msg.names] at a1 a2 a3 a4 a5 a6
 refine ⟨?_, ?_, ?_, ?_, ?_, ?_⟩ <;> simp only [Msg.addField, Msg.fields, Msg.oneofs, Msg.msgs, Msg.enums, Msg.reserved, Msg.names, List.length_append, List.length_cons, List.length_nil] <;> omega
abbrev cloO : IV := .clo (.func 85) [] [.box 4 0, .box 5 0, .box 8 0]
set_option maxRecDepth 100000 in
theorem cloO_g (E8 E9 : Er) (l : List Tk) (hl : PTk l) (which : Int) (m : Msg) (hm : Small m 100000000000) (p : Nat) (hp : p ≤ 100000) : EG Tryd.prog (gE E8 E9) 85 [.box 4 0, .box 5 0, .box 8 0] (oB l which m p) (pmR m) (OE l E8 E9 which (pOne l which m p)) := by
 refine eg_enter 8 Tryd.func85 rfl rfl rfl fun w D bor mb => ?_
 try refine e_fl ?_
 refine e_plain (w_as rfl rfl rfl rfl rfl .nil) ?_
 try refine e_fl ?_
 refine e_list ?_
 refine l_op (s_load1_box rfl (kn rfl) rfl rfl one_86) ?_
 refine l_op (s_load1_box rfl (kn rfl) rfl rfl one_121) ?_
 refine l_op (s_loadn_box (ds := [_, _, _, _, _, _, _, _, _, _]) 10 rfl (kn rfl) rfl rfl agg_135 sz_135 rfl) ?_
 refine e_calli rfl rfl rfl rfl (by kernel_rfl) (field_g E8 E9 l hl m hm (fld0 1 which) p hp) ⟨rfl, rfl, trivial⟩ ⟨rfl, rfl, rfl, rfl, rfl, rfl, trivial⟩ ⟨(kn rfl), ⟨(kn rfl), ⟨(kn rfl), trivial⟩⟩⟩ (NE.tidy) ?_
 rintro _ _ _ (⟨a, b, z, g, he, rfl, rfl, rfl⟩ | ⟨g, z, ho, rfl, rfl, rfl⟩)
 ·refine l_as ?_
  refine e_nil ?_
  try refine e_fl ?_
  exact e_returnx (oB l which g z) (pmR g) rfl (.tmp (kn rfl) (.nil)) (Imp.refl _) ⟨s_b, s_b, s_b, s_b, s_b, trivial⟩ ⟨rfl, rfl, rfl, rfl, rfl, rfl, trivial⟩ (.inl ⟨a, b, z, g, he, rfl, rfl, rfl⟩)
 ·refine l_as ?_
  refine e_nil ?_
  try refine e_fl ?_
  exact e_returnx (oB l which g z) (pmR g) rfl (.tmp (kn rfl) (.nil)) (Imp.refl _) ⟨s_b, s_b, s_b, s_b, s_b, trivial⟩ ⟨rfl, rfl, rfl, rfl, rfl, rfl, trivial⟩ (.inr ⟨g, z, ho, rfl, rfl, rfl⟩)
def Bd_blkO (m : Msg) (z : Nat) : Prop := Small m (10000000000 + z)
set_option maxRecDepth 100000 in
set_option maxHeartbeats 2000000 in
theorem blkO (E8 E9 : Er) (l : List Tk) (hl : PTk l) (which : Int) (x0 : Msg) (p : Nat) (hp : p ≤ 100000) (hx0 : ∀ q, p < q → Bd_blkO x0 q) : EG Tryd.prog (gE E8 E9) 64 [.box 1 0, .part (iP 1), cloO] (oB l which x0 p) (pmR x0) (ME l E8 E9 (oB l which) (pmR) (sBlock l 1 (pOne l which) x0 p)) := by
 refine eg_enter 35 Tryd.func64 rfl rfl rfl fun w D bor mb => ?_
 try refine e_fl ?_
 have hll := hl.len
 obtain ⟨rr, hrr⟩ : ∃ rr, rr = sBlock l 1 (pOne l which) x0 p := ⟨_, rfl⟩
 rw [← hrr]
 refine e_plain (w_as rfl rfl rfl rfl rfl .nil) ?_
 try refine e_fl ?_
 refine e_list ?_
 refine l_mv ?_
 refine l_op (s_buildSlice (ds := [_]) [(0, _)] rfl ⟨rfl, (kn rfl), trivial⟩ rfl sl_45 sz_9 zr_9 (fun w D => .cons (.cell _) (.nil _ _)) rfl rfl rfl rfl rfl) ?_
 refine e_calli rfl rfl rfl rfl (by kernel_rfl) (want1_g E8 E9 l hl 4 [123] rfl (by decide) p (by omega)) ⟨rfl, trivial⟩ trivial ⟨(kn rfl), ⟨(kn rfl), trivial⟩⟩ (PE.tidy) ?_
 rintro _ _ _ (⟨a, b, z, he, rfl, rfl, rfl⟩ | ⟨q0, ho, rfl, rfl, rfl⟩)
 ·refine l_as ?_
  refine e_nil ?_
  try refine e_fl ?_
  refine e_plain (w_mv rfl rfl rfl rfl rfl (w_op rfl rfl rfl (s_err_neq rfl (kn rfl) rfl ifc_30) .nil)) ?_
  try refine e_fl ?_
  refine c_yes ?_
  try refine e_fl ?_
  refine e_plain (w_mv rfl rfl rfl rfl rfl (w_as rfl rfl rfl rfl rfl .nil)) ?_
  try refine e_fl ?_
  exact e_returnx (oB l which x0 z) (pmR x0) rfl (.tmp (kn rfl) (.nil)) (Imp.refl _) ⟨s_b, s_b, s_b, s_b, s_b, trivial⟩ ⟨rfl, rfl, rfl, rfl, rfl, rfl, trivial⟩ (.inl ⟨a, b, z, x0, by rw [hrr, sBlock, he], rfl, rfl, rfl⟩)
 have ho1 := sWant_ok ho
 refine l_as ?_
 refine e_nil ?_
 try refine e_fl ?_
 refine e_plain (w_mv rfl rfl rfl rfl rfl (w_op rfl rfl rfl (s_nil_neq rfl (kn rfl) ifc_30) .nil)) ?_
 try refine e_fl ?_
 refine c_no ?_
 try refine e_fl ?_
 refine e_plain (w_as rfl rfl rfl rfl rfl .nil) ?_
 try refine e_fl ?_
 rw [sBlock, ho] at hrr
 dsimp only at hrr
 refine e_loop (ι := { i : Nat × Msg × Nat × Nat // 1 ≤ i.1 ∧ l.length + 1 ≤ i.1 + i.2.2.2 ∧ i.2.2.2 ≤ l.length ∧ i.2.2.1 ≤ i.2.2.2 ∧ Bd_blkO i.2.1 i.2.2.2 ∧ rr = sBlk l 1 (pOne l which) i.1 i.2.1 i.2.2.1 i.2.2.2 })
  (fun i => [(0, .box 1 0), (1, .part (iP 1)), (2, cloO), (8, .is (.int .i64 (i.1.2.2.1 : Int)))])
  (fun i => oB l which i.1.2.1 i.1.2.2.2) (fun i => pmR i.1.2.1)
  (fun i => i.1.1) ⟨(l.length + 1, x0, 0, q0), by omega, by dsimp only; omega, by dsimp only; omega, by dsimp only; omega, hx0 q0 (by omega), hrr⟩
  (fun K => e_sub ⟨s_t, s_t, s_t, s_t, trivial⟩ ⟨s_b, s_b, s_b, s_b, s_b, trivial⟩ ⟨rfl, rfl, rfl, rfl, rfl, rfl, trivial⟩) ?_
 rintro ⟨⟨n', x, k, q⟩, hn1, hn, hq, hk, hbd, hw⟩
 dsimp only at hn1 hn hq hk hbd hw ⊢
 obtain ⟨n, rfl⟩ : ∃ n, n' = n + 1 := ⟨n' - 1, by omega⟩
 rw [sBlk] at hw
 try refine e_fl ?_
 refine e_list ?_
 refine l_mv ?_
 refine l_mv ?_
 refine l_op (s_bin rfl (kn rfl) (kn rfl) v_lss) ?_
 refine l_mv ?_
 refine e_list_gd rfl rfl rfl (fun h => s_move rfl (kn rfl)) ?_
 refine e_list_gd rfl rfl rfl (fun h => s_buildSlice (ds := [_]) [(0, _)] rfl ⟨rfl, (kn rfl), trivial⟩ rfl sl_45 sz_9 zr_9 (fun w D => .cons (.cell _) (.nil _ _)) rfl rfl rfl rfl rfl) ?_
 refine e_guard rfl rfl rfl (fun h => ?_) (fun h => ?_)
 ·have hkl : ¬ k < 1 := by
   have h0 := of_decide_eq_false (not_t h)
   omega
  refine e_calli rfl rfl rfl rfl (by kernel_rfl) (take1 _ l hl [125] 4 rfl (by decide) q (by omega)) ⟨rfl, trivial⟩ trivial ⟨(kn_opt rfl h), ⟨(kn_opt rfl h), trivial⟩⟩ (fun _ _ _ h => PY.tidy h.1 h.2.1 h.2.2) ?_
  rintro _ _ _ ⟨rfl, rfl, rfl⟩
  refine e_list_gd rfl rfl rfl (fun h => s_not rfl (kn rfl)) ?_
  refine l_op (s_or rfl (kn rfl) (fun hb => kn_opt rfl hb)) ?_
  refine e_nil ?_
  try refine e_fl ?_
  have h0 := not_t h
  rw [h0, Bool.false_or]
  rw [decide_eq_false hkl, Bool.false_or] at hw
  cases h1 : tkIs l q 4 [125]
  ·rw [h1] at hw
   rw [if_neg (by decide)] at hw
   refine c_yes ?_
   try refine e_fl ?_
   refine e_list ?_
   refine l_mv ?_
   refine l_op (s_buildSlice (ds := [_]) [(0, _)] rfl ⟨rfl, (kn rfl), trivial⟩ rfl sl_45 sz_9 zr_9 (fun w D => .cons (.cell _) (.nil _ _)) rfl rfl rfl rfl rfl) ?_
   refine e_calli rfl rfl rfl rfl (by kernel_rfl) (take1 _ l hl [59] 4 rfl (by decide) q (by omega)) ⟨rfl, trivial⟩ trivial ⟨(kn rfl), ⟨(kn rfl), trivial⟩⟩ (fun _ _ _ h => PY.tidy h.1 h.2.1 h.2.2) ?_
   rintro _ _ _ ⟨rfl, rfl, rfl⟩
   refine e_nil ?_
   try refine e_fl ?_
   refine e_cond rfl (fun h2 => ?_) (fun h2 => ?_)
   ·have hlt := tkIs_lt h2
    rw [if_pos h2] at hw
    rw [h2]
    try refine e_fl ?_
    refine e_again ⟨(n, x, k, q + 1), by omega, by dsimp only; omega, by dsimp only; omega, by dsimp only; omega, Small.mono hbd (by dsimp only; omega), hw⟩ (by dsimp only; omega) (fun K => e_sub ⟨s_t, s_t, s_t, s_t, trivial⟩ ⟨s_b, s_b, s_b, s_b, s_b, trivial⟩ ⟨rfl, rfl, rfl, rfl, rfl, rfl, trivial⟩)
   rw [if_neg (by rw [h2]; decide)] at hw
   rw [h2]
   try refine e_fl ?_
   refine e_list ?_
   refine l_mv ?_
   refine e_callci (zs := []) rfl rfl rfl rfl (by kernel_rfl) (cloO_g E8 E9 l hl which x (Small.mono hbd (by omega)) q (by omega)) ⟨rfl, rfl, rfl, rfl, rfl, trivial⟩ ⟨rfl, rfl, rfl, rfl, rfl, rfl, trivial⟩ (kn rfl) trivial rfl (OE.tidy) ?_
   rintro _ _ _ (⟨a, b, z, g, he, rfl, rfl, rfl⟩ | ⟨y, r, ho, rfl, rfl, rfl⟩)
   ·refine l_as ?_
    refine e_nil ?_
    try refine e_fl ?_
    refine e_plain (w_mv rfl rfl rfl rfl rfl (w_op rfl rfl rfl (s_err_neq rfl (kn rfl) rfl ifc_30) .nil)) ?_
    try refine e_fl ?_
    refine c_yes ?_
    try refine e_fl ?_
    refine e_plain (w_mv rfl rfl rfl rfl rfl (w_as rfl rfl rfl rfl rfl .nil)) ?_
    try refine e_fl ?_
    exact e_returnx (oB l which g z) (pmR g) rfl (.tmp (kn rfl) (.nil)) (Imp.refl _) ⟨s_b, s_b, s_b, s_b, s_b, trivial⟩ ⟨rfl, rfl, rfl, rfl, rfl, rfl, trivial⟩ (.inl ⟨a, b, z, g, by rw [hw, he], rfl, rfl, rfl⟩)
   rw [ho] at hw
   dsimp only at hw
   obtain ⟨g, hg, hyg⟩ := withFld_ok ho
   have hv := sField_ok hg
   have hby : Bd_blkO y r := by rw [hyg]; exact small_fld hbd (by omega)
   refine l_as ?_
   refine e_nil ?_
   try refine e_fl ?_
   refine e_plain (w_mv rfl rfl rfl rfl rfl (w_op rfl rfl rfl (s_nil_neq rfl (kn rfl) ifc_30) .nil)) ?_
   try refine e_fl ?_
   refine c_no ?_
   try refine e_fl ?_
   refine e_plain (w_mv rfl rfl rfl rfl rfl (w_op rfl rfl rfl (s_bin rfl (kn rfl) (kn rfl) (v_add64 (by first | omega | (dsimp only; omega) | omega))) (w_as rfl rfl rfl rfl rfl .nil))) ?_
   try refine e_fl ?_
   refine e_again ⟨(n, y, k + 1, r), by omega, by dsimp only; omega, by dsimp only; omega, by dsimp only; omega, hby, hw⟩ (by dsimp only; omega) (fun K => e_sub ⟨s_t, s_t, s_t, s_t, trivial⟩ ⟨s_b, s_b, s_b, s_b, s_b, trivial⟩ ⟨rfl, rfl, rfl, rfl, rfl, rfl, trivial⟩)
  ·rw [h1] at hw
   rw [if_pos (by decide)] at hw
   refine c_no ?_
   try refine e_fl ?_
   refine e_plain (w_as rfl rfl rfl rfl rfl .nil) ?_
   try refine e_fl ?_
   exact e_returnx (oB l which x (q + 1)) (pmR x) rfl (.tmp (kn rfl) (.nil)) (Imp.refl _) ⟨s_b, s_b, s_b, s_b, s_b, trivial⟩ ⟨rfl, rfl, rfl, rfl, rfl, rfl, trivial⟩ (.inr ⟨x, q + 1, hw, rfl, rfl, rfl⟩)
 ·have hkl : k < 1 := by
   have h0 := of_decide_eq_true (not_f h)
   omega
  have h0 := not_f h
  refine e_list_gd (y := .is (.bool false)) rfl rfl rfl (fun h' => absurd (h'.symm.trans h) (by decide)) ?_
  refine l_op (s_or rfl (kn rfl) (fun hb => kn_opt rfl hb)) ?_
  refine e_nil ?_
  try refine e_fl ?_
  rw [h0, Bool.true_or]
  rw [decide_eq_true hkl, Bool.true_or] at hw
  rw [if_neg (by decide)] at hw
  refine c_yes ?_
  try refine e_fl ?_
  refine e_list ?_
  refine l_mv ?_
  refine l_op (s_buildSlice (ds := [_]) [(0, _)] rfl ⟨rfl, (kn rfl), trivial⟩ rfl sl_45 sz_9 zr_9 (fun w D => .cons (.cell _) (.nil _ _)) rfl rfl rfl rfl rfl) ?_
  refine e_calli rfl rfl rfl rfl (by kernel_rfl) (take1 _ l hl [59] 4 rfl (by decide) q (by omega)) ⟨rfl, trivial⟩ trivial ⟨(kn rfl), ⟨(kn rfl), trivial⟩⟩ (fun _ _ _ h => PY.tidy h.1 h.2.1 h.2.2) ?_
  rintro _ _ _ ⟨rfl, rfl, rfl⟩
  refine e_nil ?_
  try refine e_fl ?_
  refine e_cond rfl (fun h2 => ?_) (fun h2 => ?_)
  ·have hlt := tkIs_lt h2
   rw [if_pos h2] at hw
   rw [h2]
   try refine e_fl ?_
   refine e_again ⟨(n, x, k, q + 1), by omega, by dsimp only; omega, by dsimp only; omega, by dsimp only; omega, Small.mono hbd (by dsimp only; omega), hw⟩ (by dsimp only; omega) (fun K => e_sub ⟨s_t, s_t, s_t, s_t, trivial⟩ ⟨s_b, s_b, s_b, s_b, s_b, trivial⟩ ⟨rfl, rfl, rfl, rfl, rfl, rfl, trivial⟩)
  rw [if_neg (by rw [h2]; decide)] at hw
  rw [h2]
  try refine e_fl ?_
  refine e_list ?_
  refine l_mv ?_
  refine e_callci (zs := []) rfl rfl rfl rfl (by kernel_rfl) (cloO_g E8 E9 l hl which x (Small.mono hbd (by omega)) q (by omega)) ⟨rfl, rfl, rfl, rfl, rfl, trivial⟩ ⟨rfl, rfl, rfl, rfl, rfl, rfl, trivial⟩ (kn rfl) trivial rfl (OE.tidy) ?_
  rintro _ _ _ (⟨a, b, z, g, he, rfl, rfl, rfl⟩ | ⟨y, r, ho, rfl, rfl, rfl⟩)
  ·refine l_as ?_
   refine e_nil ?_
   try refine e_fl ?_
   refine e_plain (w_mv rfl rfl rfl rfl rfl (w_op rfl rfl rfl (s_err_neq rfl (kn rfl) rfl ifc_30) .nil)) ?_
   try refine e_fl ?_
   refine c_yes ?_
   try refine e_fl ?_
   refine e_plain (w_mv rfl rfl rfl rfl rfl (w_as rfl rfl rfl rfl rfl .nil)) ?_
   try refine e_fl ?_
   exact e_returnx (oB l which g z) (pmR g) rfl (.tmp (kn rfl) (.nil)) (Imp.refl _) ⟨s_b, s_b, s_b, s_b, s_b, trivial⟩ ⟨rfl, rfl, rfl, rfl, rfl, rfl, trivial⟩ (.inl ⟨a, b, z, g, by rw [hw, he], rfl, rfl, rfl⟩)
  rw [ho] at hw
  dsimp only at hw
  obtain ⟨g, hg, hyg⟩ := withFld_ok ho
  have hv := sField_ok hg
  have hby : Bd_blkO y r := by rw [hyg]; exact small_fld hbd (by omega)
  refine l_as ?_
  refine e_nil ?_
  try refine e_fl ?_
  refine e_plain (w_mv rfl rfl rfl rfl rfl (w_op rfl rfl rfl (s_nil_neq rfl (kn rfl) ifc_30) .nil)) ?_
  try refine e_fl ?_
  refine c_no ?_
  try refine e_fl ?_
  refine e_plain (w_mv rfl rfl rfl rfl rfl (w_op rfl rfl rfl (s_bin rfl (kn rfl) (kn rfl) (v_add64 (by first | omega | (dsimp only; omega) | omega))) (w_as rfl rfl rfl rfl rfl .nil))) ?_
  try refine e_fl ?_
  refine e_again ⟨(n, y, k + 1, r), by omega, by dsimp only; omega, by dsimp only; omega, by dsimp only; omega, hby, hw⟩ (by dsimp only; omega) (fun K => e_sub ⟨s_t, s_t, s_t, s_t, trivial⟩ ⟨s_b, s_b, s_b, s_b, s_b, trivial⟩ ⟨rfl, rfl, rfl, rfl, rfl, rfl, trivial⟩)
end Go.Proofs.YtekeanikgcpijaaDoor
namespace Go.Proofs.YtekeanikgcpijaaDoor
open Go.RowKit
theorem sField_close {l : List Tk} {p : Nat} (hc : tkIs l p 4 [125] = true) (a b : Int) : sField l p a b = .error (p, 9) := by
 have h1 : sName l p = .error (p, 9) := name_not (by rw [tkIs_kind hc]; decide)
 have h2 : tkIs l p 4 [46] = false := tkIs_one hc (by simp) (by simp) (by decide)
 simp [sField, sDotted, h2, sDots, h1]
def withOne (m : Msg) (r : Ans8 ((List UInt8 × List Fld) × Nat)) : Ans8 (Msg × Nat) :=
 match r with
 | .error e => .error e
 | .ok (g, q) => .ok (m.addOneof g, q)
theorem addOneof_addField (m : Msg) (t : List UInt8) (fs : List Fld) (f : Fld) : (m.addOneof (t, fs)).addField f = m.addOneof (t, fs ++ [f]) := by
 cases m
 simp [Msg.addOneof, Msg.addField]
theorem sFlds_blk (l : List Tk) (which : Int) (mm : Msg) (t : List UInt8) : ∀ (d n m : Nat) (vs : List Fld) (p : Nat), l.length + 1 - p ≤ d → p ≤ l.length → l.length + 1 ≤ n + p → l.length + 1 ≤ m + p →
  (match sFlds l which n vs p with | .error e => (.error e : Ans8 (Msg × Nat)) | .ok (us, r) => .ok (mm.addOneof (t, us), r)) = sBlk l 1 (pOne l which) m (mm.addOneof (t, vs)) vs.length p
 | 0, _, _, _, p, hd, hp, _, _ => by omega
 | d + 1, 0, _, _, p, hd, hp, hn, _ => by omega
 | d + 1, _, 0, _, p, hd, hp, _, hm => by omega
 | d + 1, n + 1, m + 1, vs, p, hd, hp, hn, hm => by
  by_cases hs : tkIs l p 4 [59] = true
  ·have hlt := tkIs_lt hs
   have hc := tkIs_one (t := [125]) hs (by simp) (by simp) (by decide)
   have ih := sFlds_blk l which mm t d (n + 1) m vs (p + 1) (by omega) (by omega) (by omega) (by omega)
   rw [sBlk, hc, hs]
   simp only [Bool.not_false, Bool.or_true, Bool.not_true, Bool.false_eq_true, if_false, if_true]
   rw [← ih]
   rw [sFlds, sFlds, semis_more hs]
  ·have hs' : tkIs l p 4 [59] = false := by simpa using hs
   rw [sFlds, sBlk, semis_done hs', hs']
   by_cases hc : tkIs l p 4 [125] = true
   ·rw [hc]
    cases vs with
    | nil => simp [pOne, withFld, sField_close hc, form8]
    | cons v vs => simp
   ·have hc' : tkIs l p 4 [125] = false := by simpa using hc
    rw [hc']
    simp only [Bool.not_false, Bool.or_true, Bool.not_true, Bool.false_eq_true, if_false]
    cases hv : sField l p 1 which with
    | error e => simp only [pOne, withFld, hv]
    | ok y =>
     obtain ⟨v, q⟩ := y
     have hq := sField_ok hv
     simp only [pOne, withFld, hv, addOneof_addField]
     rcases Nat.eq_zero_or_pos n with h0 | h0
     ·omega
     ·have ih := sFlds_blk l which mm t d n m (vs ++ [v]) q (by omega) (by omega) (by omega) (by omega)
      rw [List.length_append] at ih
      exact ih
theorem sOneof_blk (l : List Tk) (m : Msg) (which : Int) (p : Nat) : withOne m (sOneof l p which) = match sName l p with
 | .error e => .error e
 | .ok (x, q) => sBlock l 1 (pOne l which) (m.addOneof (x.1.t, [])) q := by
 unfold sOneof sHead sBlock withOne
 cases hx : sName l p with
 | error e => rfl
 | ok x =>
  obtain ⟨x, q⟩ := x
  dsimp only
  cases hw : sWant l 4 [123] q with
  | error e => rfl
  | ok r =>
   dsimp only
   have hr := sWant_ok hw
   have h := sFlds_blk l which m x.1.t _ (l.length + 1) (l.length + 1) [] r (Nat.le_refl _) (by omega) (by omega) (by omega)
   refine Eq.trans ?_ h
   cases sFlds l which (l.length + 1) [] r with
   | error e => rfl
   | ok y => rfl
theorem small_one {m : Msg} {t : List UInt8} {y z : Nat} (h : Small m y) (hz : y + 1 ≤ z) : Small (m.addOneof (t, [])) z := by
 obtain ⟨nm, fs, os, ms, es, rs, ns, ln, cl⟩ := m
 obtain ⟨a1, a2, a3, a4, a5, a6⟩ := h
 simp only [Msg.fields, Msg.oneofs, Msg.msgs, Msg.enums, Msg.reserved, Msg.names] at a1 a2 a3 a4 a5 a6
 refine ⟨?_, ?_, ?_, ?_, ?_, ?_⟩ <;> simp only [Msg.addOneof, Msg.fields, Msg.oneofs, Msg.msgs, Msg.enums, Msg.reserved, Msg.names, List.length_append, List.length_cons, List.length_nil] <;> omega
set_option maxRecDepth 100000 in
set_option maxHeartbeats 1000000 in
theorem oneof_g (E8 E9 : Er) (l : List Tk) (hl : PTk l) (m : Msg) (p : Nat) (hm : Small m (10000000000 + p)) (hp : p ≤ 100000) : EG Tryd.prog (gE E8 E9) 77 [.box 1 0, .box 3 0] (mS l m p) (pmR m) (NE l E8 E9 (withOne m (sOneof l p ((m.oneofs.length : Int) + 1)))) := by
 obtain ⟨nm, fs, os, ms, es, rs, ns, ln, cl⟩ := m
 have hm0 : (Msg.mk nm fs os ms es rs ns ln cl).oneofs.length ≤ 10000000000 + p := hm.2.1
 have hm1 : (Msg.mk nm fs os ms es rs ns ln cl).oneofs.length ≤ 100000000000 := by omega
 refine eg_enter 36 Tryd.func77 rfl rfl rfl fun w D bor mb => ?_
 try refine e_fl ?_
 have hll := hl.len
 refine e_list ?_
 refine e_boxi 4 rfl rfl rfl rfl (kn rfl) rfl rfl rfl rfl rfl ?_
 refine e_boxi 5 rfl rfl rfl rfl (kn rfl) rfl rfl rfl rfl rfl ?_
 refine l_as ?_
 refine e_nil ?_
 try refine e_fl ?_
 refine e_list ?_
 refine l_op (s_load1_box rfl (kn rfl) rfl rfl one_86) ?_
 refine e_calli rfl rfl rfl rfl (by kernel_rfl) (token_g E8 E9 l hl.toTksOk (p) 1 (by omega)) ⟨rfl, trivial⟩ trivial ⟨(kn rfl), ⟨(kn rfl), trivial⟩⟩ (TY.tidy) ?_
 rintro _ _ _ (⟨hk, rfl, rfl, rfl⟩ | ⟨hk, rfl, rfl, rfl⟩)
 ·refine l_mv ?_
  refine l_ex ?_
  refine l_ex ?_
  refine e_alloc 30 [.is (.int .i64 0), .is (.string ⟨#[]⟩), .is (.int .i64 0), .is (.int .i64 0), .is (.int .i64 0)] rfl rfl rfl rfl zr_67 (fun w D M V => ⟨rfl, fun j x v h1 h2 => cfit_is _ h1 h2 rfl⟩) rfl rfl rfl rfl ?_
  refine e_storew rfl rfl rfl (kn rfl) rfl (kn rfl) rfl rfl sz_67 ?_
  refine l_as ?_
  refine e_nil ?_
  try refine e_fl ?_
  refine e_plain (w_mv rfl rfl rfl rfl rfl (w_op rfl rfl rfl (s_err_neq rfl (kn rfl) rfl ifc_30) .nil)) ?_
  try refine e_fl ?_
  refine c_yes ?_
  try refine e_fl ?_
  refine e_plain (w_mv rfl rfl rfl rfl rfl (w_as rfl rfl rfl rfl rfl .nil)) ?_
  try refine e_fl ?_
  exact e_returnx (mS l (Msg.mk nm fs os ms es rs ns ln cl) p) (pmR (Msg.mk nm fs os ms es rs ns ln cl)) rfl (.tmp (kn rfl) (.nil)) (Imp.refl _) ⟨s_b, s_b, trivial⟩ ⟨rfl, rfl, rfl, rfl, rfl, rfl, trivial⟩ (.inl ⟨p, 9, p, _, by rw [sOneof_blk, name_not hk], rfl, rfl, rfl⟩)
 refine l_mv ?_
 refine l_ex ?_
 refine l_ex ?_
 refine e_alloc 30 [.is (.int .i64 0), .is (.string ⟨#[]⟩), .is (.int .i64 0), .is (.int .i64 0), .is (.int .i64 0)] rfl rfl rfl rfl zr_67 (fun w D M V => ⟨rfl, fun j x v h1 h2 => cfit_is _ h1 h2 rfl⟩) rfl rfl rfl rfl ?_
 refine e_storew rfl rfl rfl (kn rfl) rfl (kn rfl) rfl rfl sz_67 ?_
 refine l_as ?_
 refine e_nil ?_
 try refine e_fl ?_
 refine e_plain (w_mv rfl rfl rfl rfl rfl (w_op rfl rfl rfl (s_nil_neq rfl (kn rfl) ifc_30) .nil)) ?_
 try refine e_fl ?_
 refine c_no ?_
 try refine e_fl ?_
 obtain ⟨hlt0, hx⟩ := name_is hk
 refine e_draw_float2 8 mixed (by kernel_rfl) rfl rfl (w_op rfl rfl rfl (s_load1_box rfl (kn rfl) rfl rfl one_121) (w_op rfl rfl rfl (s_load1_box rfl (kn rfl) rfl rfl one_121) (w_op rfl rfl rfl (s_nil_box rfl (kn rfl)) (w_op rfl rfl rfl (s_faddr_box rfl (kn rfl) off_48_2) (w_op rfl rfl rfl (s_load1_box rfl (kn rfl) rfl rfl one_45) (w_op rfl rfl rfl (s_faddr_box rfl (kn rfl) off_67_1) (w_op rfl rfl rfl (s_load1_box rfl (kn rfl) rfl rfl one_9) (w_op rfl rfl rfl (s_buildSlice (ds := [_]) [(0, _)] rfl ⟨rfl, (kn rfl), trivial⟩ rfl sl_45 sz_9 zr_9 (fun w D => .cons (.cell _) (.nil _ _)) rfl rfl rfl rfl rfl) .nil)))))))) rfl ?_ ?_
 ·refine e_append rfl rfl rfl rfl (kn rfl) rfl (kn rfl) sl_45 ap_45 rfl rfl (by first | omega | (dsimp only; omega) | omega) (by first | omega | (dsimp only; omega) | omega) ?_
  refine l_op (s_nil_box rfl (kn rfl)) ?_
  refine l_op (s_faddr_box rfl (kn rfl) off_48_2) ?_
  refine e_store_own rfl rfl rfl (kn rfl) rfl (kn rfl) rfl rfl sz_45 rfl ?_
  refine e_nil ?_
  try refine e_fl ?_
  refine e_list ?_
  refine l_op (s_load1_box rfl (kn rfl) rfl rfl one_121) ?_
  refine l_op (s_nil_box rfl (kn rfl)) ?_
  refine l_op (s_faddr_box rfl (kn rfl) off_48_2) ?_
  refine l_op (s_load1_box rfl (kn rfl) rfl rfl one_45) ?_
  refine l_op (s_len_own rfl (kn rfl) rfl sle_45) ?_
  refine l_op (s_build (ds := [_, _, _, _, _, _, _, _, _, _]) [(4, _), (7, _)] rfl ⟨rfl, (kn rfl), ⟨rfl, (kn rfl), trivial⟩⟩ rfl pl_135 zr_135 (fun w D => .cons (.cell _) (.cons (.cell _) (.cons (.cell _) (.cons (.cell _) (.cons (.cell _) (.cons (.cell _) (.cons (.cell _) (.cons (.cell _) (.cons (.cell _) (.cons (.cell _) (.nil _ _))))))))))) rfl) ?_
  refine e_alloc 8 [.is (.string ⟨#[]⟩), .is (.string ⟨#[]⟩), .is (.string ⟨#[]⟩), .is (.string ⟨#[]⟩), .is (.int .i64 0), .is (.int .i64 0), .is (.int .i64 0), .is (.int .i64 0), .is (.int .i64 0), .is (.int .i64 0)] rfl rfl rfl rfl zr_135 (fun w D M V => ⟨rfl, fun j x v h1 h2 => cfit_is _ h1 h2 rfl⟩) rfl rfl rfl rfl ?_
  refine e_storew rfl rfl rfl (kn rfl) rfl (kn rfl) rfl rfl sz_135 ?_
  refine e_nil ?_
  try refine e_fl ?_
  refine e_list ?_
  refine l_op (s_load1_box rfl (kn rfl) rfl rfl one_86) ?_
  refine l_op (s_func (fs := []) (cs := [.box 4 0, .box 5 0, .box 8 0]) rfl trivial ⟨(kn rfl), (kn rfl), (kn rfl), trivial⟩) ?_
  refine e_calli rfl rfl rfl rfl (by kernel_rfl) (blkO E8 E9 l hl ((os.length : Int) + 1) ((Msg.mk nm fs os ms es rs ns ln cl).addOneof ((tkAt l p).1.t, [])) (p + 1) (by omega) (fun q hq => small_one hm (by omega))) ⟨rfl, rfl, rfl, rfl, rfl, trivial⟩ ⟨rowEq rfl (by simp [Msg.addOneof, Msg.fields]) (by simp [Msg.addOneof, Msg.fields]), rowEq rfl (by simp [Msg.addOneof, Msg.oneofs]) (by simp [Msg.addOneof, Msg.oneofs, List.flatMap_append, textDats]), rfl, rfl, rfl, rfl, trivial⟩ ⟨(kn rfl), ⟨(kn rfl), ⟨(kn rfl), trivial⟩⟩⟩ (OE.tidy) ?_
  rintro _ _ _ (⟨a, b, z, g, he, rfl, rfl, rfl⟩ | ⟨g, z, ho, rfl, rfl, rfl⟩)
  ·refine l_as ?_
   refine e_nil ?_
   try refine e_fl ?_
   exact e_returnx (mS l g z) (pmR g) rfl (.tmp (kn rfl) (.nil)) (Imp.refl _) ⟨s_b, s_b, trivial⟩ ⟨rfl, rfl, rfl, rfl, rfl, rfl, trivial⟩ (.inl ⟨a, b, z, g, by rw [← he, sOneof_blk, hx]; rfl, rfl, rfl, rfl⟩)
  refine l_as ?_
  refine e_nil ?_
  try refine e_fl ?_
  exact e_returnx (mS l g z) (pmR g) rfl (.tmp (kn rfl) (.nil)) (Imp.refl _) ⟨s_b, s_b, trivial⟩ ⟨rfl, rfl, rfl, rfl, rfl, rfl, trivial⟩ (.inr ⟨g, z, by rw [← ho, sOneof_blk, hx]; rfl, rfl, rfl, rfl⟩)
 refine e_append rfl rfl rfl rfl (kn rfl) rfl (kn rfl) sl_45 ap_45 rfl rfl (by first | omega | (dsimp only; omega) | omega) (by first | omega | (dsimp only; omega) | omega) ?_
 refine l_op (s_load1_box rfl (kn rfl) rfl rfl one_121) ?_
 refine l_op (s_nil_box rfl (kn rfl)) ?_
 refine l_op (s_faddr_box rfl (kn rfl) off_48_2) ?_
 refine e_store_own rfl rfl rfl (kn rfl) rfl (kn rfl) rfl rfl sz_45 rfl ?_
 refine e_nil ?_
 try refine e_fl ?_
 refine e_list ?_
 refine l_op (s_load1_box rfl (kn rfl) rfl rfl one_121) ?_
 refine l_op (s_nil_box rfl (kn rfl)) ?_
 refine l_op (s_faddr_box rfl (kn rfl) off_48_2) ?_
 refine l_op (s_load1_box rfl (kn rfl) rfl rfl one_45) ?_
 refine l_op (s_len_own rfl (kn rfl) rfl sle_45) ?_
 refine l_op (s_build (ds := [_, _, _, _, _, _, _, _, _, _]) [(4, _), (7, _)] rfl ⟨rfl, (kn rfl), ⟨rfl, (kn rfl), trivial⟩⟩ rfl pl_135 zr_135 (fun w D => .cons (.cell _) (.cons (.cell _) (.cons (.cell _) (.cons (.cell _) (.cons (.cell _) (.cons (.cell _) (.cons (.cell _) (.cons (.cell _) (.cons (.cell _) (.cons (.cell _) (.nil _ _))))))))))) rfl) ?_
 refine e_alloc 8 [.is (.string ⟨#[]⟩), .is (.string ⟨#[]⟩), .is (.string ⟨#[]⟩), .is (.string ⟨#[]⟩), .is (.int .i64 0), .is (.int .i64 0), .is (.int .i64 0), .is (.int .i64 0), .is (.int .i64 0), .is (.int .i64 0)] rfl rfl rfl rfl zr_135 (fun w D M V => ⟨rfl, fun j x v h1 h2 => cfit_is _ h1 h2 rfl⟩) rfl rfl rfl rfl ?_
 refine e_storew rfl rfl rfl (kn rfl) rfl (kn rfl) rfl rfl sz_135 ?_
 refine e_nil ?_
 try refine e_fl ?_
 refine e_list ?_
 refine l_op (s_load1_box rfl (kn rfl) rfl rfl one_86) ?_
 refine l_op (s_func (fs := []) (cs := [.box 4 0, .box 5 0, .box 8 0]) rfl trivial ⟨(kn rfl), (kn rfl), (kn rfl), trivial⟩) ?_
 refine e_calli rfl rfl rfl rfl (by kernel_rfl) (blkO E8 E9 l hl ((os.length : Int) + 1) ((Msg.mk nm fs os ms es rs ns ln cl).addOneof ((tkAt l p).1.t, [])) (p + 1) (by omega) (fun q hq => small_one hm (by omega))) ⟨rfl, rfl, rfl, rfl, rfl, trivial⟩ ⟨rowEq rfl (by simp [Msg.addOneof, Msg.fields]) (by simp [Msg.addOneof, Msg.fields]), rowEq rfl (by simp [Msg.addOneof, Msg.oneofs]) (by simp [Msg.addOneof, Msg.oneofs, List.flatMap_append, textDats]), rfl, rfl, rfl, rfl, trivial⟩ ⟨(kn rfl), ⟨(kn rfl), ⟨(kn rfl), trivial⟩⟩⟩ (OE.tidy) ?_
 rintro _ _ _ (⟨a, b, z, g, he, rfl, rfl, rfl⟩ | ⟨g, z, ho, rfl, rfl, rfl⟩)
 ·refine l_as ?_
  refine e_nil ?_
  try refine e_fl ?_
  exact e_returnx (mS l g z) (pmR g) rfl (.tmp (kn rfl) (.nil)) (Imp.refl _) ⟨s_b, s_b, trivial⟩ ⟨rfl, rfl, rfl, rfl, rfl, rfl, trivial⟩ (.inl ⟨a, b, z, g, by rw [← he, sOneof_blk, hx]; rfl, rfl, rfl, rfl⟩)
 refine l_as ?_
 refine e_nil ?_
 try refine e_fl ?_
 exact e_returnx (mS l g z) (pmR g) rfl (.tmp (kn rfl) (.nil)) (Imp.refl _) ⟨s_b, s_b, trivial⟩ ⟨rfl, rfl, rfl, rfl, rfl, rfl, trivial⟩ (.inr ⟨g, z, by rw [← ho, sOneof_blk, hx]; rfl, rfl, rfl, rfl⟩)
end Go.Proofs.YtekeanikgcpijaaDoor
