/- Part 14 of what the last text of this claim is proved by: walks over the program, and the math behind them. Conditions: as each theorem says. -/
import Derived.Test.YtekeanikgcpijaaDoorSO13
import Derived.Test.YtekeanikgcpijaaDoorProg
import Derived.Lib.UnsafeStr
import Derived.RegionTactic
import Derived.ChangeAlike
namespace Go.Proofs.YtekeanikgcpijaaDoor
open Go.RowKit
abbrev pD (l : List Tk) (q : Nat) : List Dat := [.row 5 l.length (l.flatMap tkD), .cell (.int .i64 (q : Int))]
abbrev pX (l : List Tk) (q : Nat) : Bx := ⟨73, [.part (tksP l), .is (.int .i64 (q : Int))]⟩
abbrev pB (l : List Tk) (q : Nat) : BL := [(1, pX l q)]
def ws : List (List UInt8) := [[115, 121, 110, 116, 97, 120], [61], [59], [112, 97, 99, 107, 97, 103, 101], [109, 101, 115, 115, 97, 103, 101], [101, 110, 117, 109], [111, 110, 101, 111, 102], [114, 101, 115, 101, 114, 118, 101, 100], [114, 101, 112, 101, 97, 116, 101, 100], [111, 112, 116, 105, 111, 110, 97, 108], [109, 97, 112], [60], [62], [44], [91], [93], [112, 97, 99, 107, 101, 100], [107, 101, 121], [116, 114, 117, 101], [102, 97, 108, 115, 101], [123], [125], [45], [116, 111], [109, 97, 120], [46]]
structure PTk (l : List Tk) : Prop extends TksOk l where
 fit : ∀ p t, t ∈ ws → (decide (((tkAt l p).1.k : Int) = 3) || !decide ((tkAt l p).1.t = t)) = !tkIs l p (kindT t) t
 ne : ∀ p, (tkAt l p).1.k = 1 → (tkAt l p).1.t ≠ []
abbrev Er := TypeId × Value
abbrev eV (x : Er) : Value := .iface x.1 x.2
abbrev gE (E8 E9 : Er) : List (Nat × List Value) := [(5, [eV E8]), (3, [eV E9])]
abbrev fltD (l : List Tk) (p : Nat) (v : Er) : Dat := .ifc 63 (.ptr 65 [.cell (.int .i64 ((tkAt l p).2.1 : Int)), .cell (.int .i64 ((tkAt l p).2.2 : Int)),   .cell (eV v)])
abbrev fltP (l : List Tk) (p : Nat) (v : Er) : Part := .one (fltD l p v)
abbrev nilP : Part := .one (.cell .nilIface)
set_option maxRecDepth 100000 in
theorem ahead_r (gls : List (Nat × List Value)) (l : List Tk) (hl : TksOk l) (q n : Nat) (hq : q ≤ 200000) (hn : n ≤ 200000) : ER Tryd.prog gls 51 (pD l q) [iP n] (tkCells (tkAt l (q + n))) := by
 refine eg_enter 30 Tryd.func51 rfl rfl rfl fun w D bor mb => ?_
 try refine e_fl ?_
 have hll := hl.len
 refine e_list ?_
 refine e_alloc 4 [.is (.int .i64 0), .is (.string ⟨#[]⟩), .is (.int .i64 0), .is (.int .i64 0), .is (.int .i64 0)] rfl rfl rfl rfl zr_67 (fun w D M V => ⟨rfl, fun j x v h1 h2 => cfit_is _ h1 h2 rfl⟩) rfl rfl rfl rfl ?_
 refine e_nil ?_
 try refine e_fl ?_
 refine e_draw mixed (by kernel_rfl) (w_mv rfl rfl rfl rfl rfl (w_op rfl rfl rfl (s_nil_ref rfl (kn rfl)) (w_op rfl rfl rfl (s_faddr_ref rfl (kn rfl) off_73_1) (w_op rfl rfl rfl (s_load1_ref rfl (kn rfl) one_3) (w_mv rfl rfl rfl rfl rfl (w_op rfl rfl rfl (s_bin rfl (kn rfl) (kn rfl) (v_add64 (by first | omega | (dsimp only; omega) | omega))) (w_mv rfl rfl rfl rfl rfl (w_op rfl rfl rfl (s_nil_ref rfl (kn rfl)) (w_op rfl rfl rfl (s_faddr_ref rfl (kn rfl) off_73_0) (w_op rfl rfl rfl (s_load1_ref rfl (kn rfl) one_50) (w_op rfl rfl rfl (s_len rfl (kn rfl) sle_50) (w_op rfl rfl rfl (s_bin rfl (kn rfl) (kn rfl) v_geq) .nil)))))))))))) ?_
 try refine e_fl ?_
 refine e_cond rfl (fun h => ?_) (fun h => ?_)
 ·have h1 : tkAt l (q + n) = tk0 := by
   have := of_decide_eq_true h
   unfold tkAt
   rw [List.getD_eq_getElem?_getD, List.getElem?_eq_none (by omega)]
   rfl
  rw [h1]
  try refine e_fl ?_
  refine e_list ?_
  refine l_op (s_build (ds := [_, _, _, _, _]) [] rfl trivial rfl pl_67 zr_67 (fun w D => .cons (.cell _) (.cons (.cell _) (.cons (.cell _) (.cons (.cell _) (.cons (.cell _) (.nil _ _)))))) rfl) ?_
  refine e_storew rfl rfl rfl (kn rfl) rfl (kn rfl) rfl rfl sz_67 ?_
  refine e_nil ?_
  try refine e_fl ?_
  exact e_returnx ([]) ([]) rfl (.cell rfl rfl rfl agg_67 sz_67 rfl (.nil)) (Imp.refl _) trivial trivial (⟨rfl, rfl, rfl⟩)
 have h1 : l[q + n]? = some (tkAt l (q + n)) := tkAt_lt (by have := of_decide_eq_false h; omega)
 try refine e_fl ?_
 refine e_draw_mix [(4, _)] mixed (by kernel_rfl) (WalkM.op rfl rfl rfl (s_move rfl (kn rfl)) (WalkM.op rfl rfl rfl (s_nil_ref rfl (kn rfl)) (WalkM.op rfl rfl rfl (s_faddr_ref rfl (kn rfl) off_73_0) (WalkM.op rfl rfl rfl (s_load1_ref rfl (kn rfl) one_50) (WalkM.op rfl rfl rfl (s_move rfl (kn rfl)) (WalkM.op rfl rfl rfl (s_nil_ref rfl (kn rfl)) (WalkM.op rfl rfl rfl (s_faddr_ref rfl (kn rfl) off_73_1) (WalkM.op rfl rfl rfl (s_load1_ref rfl (kn rfl) one_3) (WalkM.op rfl rfl rfl (s_move rfl (kn rfl)) (WalkM.op rfl rfl rfl (s_bin rfl (kn rfl) (kn rfl) (v_add64 (by first | omega | (dsimp only; omega) | omega))) (WalkM.op rfl rfl rfl (s_index rfl (kn rfl) (kn rfl) (by omega) h1 tkD_len sle_50 esz_50 rfl) (WalkM.op rfl rfl rfl (s_loadn_ref rfl (kn rfl) agg_67 sz_67) (WalkM.stw rfl rfl rfl (kn rfl) rfl rfl (kn rfl) rfl rfl rfl sz_67 (WalkM.nil)))))))))))))) rfl ?_
 try refine e_fl ?_
 exact e_returnx ([]) ([]) rfl (.cell rfl rfl rfl agg_67 sz_67 rfl (.nil)) (Imp.refl _) trivial trivial (⟨rfl, rfl, rfl⟩)
set_option maxRecDepth 100000 in
theorem fault_ef (gls : List (Nat × List Value)) (l : List Tk) (p : Nat) (v : Er) : EF Tryd.prog gls 50 [tkP (tkAt l p),   .one (.cell (eV v))] (.part (fltP l p v)) := by
 refine ef_enter 13 Tryd.func50 rfl rfl rfl fun w D => ?_
 try refine e_fl ?_
 refine e_list ?_
 refine e_box 2 rfl rfl rfl rfl (kn rfl) rfl rfl rfl rfl ?_
 refine l_as ?_
 refine e_nil ?_
 try refine e_fl ?_
 refine e_list ?_
 refine l_op (s_faddr_box rfl (kn rfl) off_67_3) ?_
 refine l_op (s_load1_box rfl (kn rfl) rfl rfl one_3) ?_
 refine l_op (s_faddr_box rfl (kn rfl) off_67_4) ?_
 refine l_op (s_load1_box rfl (kn rfl) rfl rfl one_3) ?_
 refine l_mv ?_
 refine l_op (s_build (ds := [_, _, _]) [(0, _), (1, _), (2, _)] rfl ⟨rfl, (kn rfl), ⟨rfl, (kn rfl), ⟨rfl, (kn rfl), trivial⟩⟩⟩ rfl pl_65 zr_65 (fun w D => .cons (.cell _) (.cons (.cell _) (.cons (.cell _) (.nil _ _)))) rfl) ?_
 refine e_box 11 rfl rfl rfl rfl (kn rfl) rfl rfl rfl rfl ?_
 refine e_data 11 11 rfl rfl rfl ?_
 refine e_list_op rfl rfl rfl (s_iface rfl (kn rfl) (by kernel_rfl)) ?_
 refine l_as ?_
 refine e_nil ?_
 try refine e_fl ?_
 exact e_return rfl rfl (.tmp (kn rfl) (.nil)) (Imp.refl _) rfl
set_option maxRecDepth 100000 in
theorem misfit_g (E8 E9 : Er) (l : List Tk) (hl : TksOk l) (q : Nat) (hq : q ≤ 200000) : EG Tryd.prog (gE E8 E9) 54 [.box 1 0] (pB l q) [] (fun y B1 R1 => y = .part (fltP l q E9) ∧ B1 = pB l q ∧ R1 = []) := by
 refine eg_enter 7 Tryd.func54 rfl rfl rfl fun w D bor mb => ?_
 try refine e_fl ?_
 refine e_plain (w_as rfl rfl rfl rfl rfl .nil) ?_
 try refine e_fl ?_
 refine e_draw mixed (by kernel_rfl) (w_mv rfl rfl rfl rfl rfl (w_op rfl rfl rfl (s_callr rfl (by kernel_rfl) (ahead_r _ l hl q 0 hq (by omega)) (kn rfl) rfl rfl ⟨kn rfl, trivial⟩) (w_op rfl rfl rfl (s_load_gl rfl (kn rfl) (List.mem_cons_of_mem _ (List.mem_singleton.2 rfl)) one_30) (w_op rfl rfl rfl (s_call rfl (by kernel_rfl) (fault_ef _ l q E9) ⟨(kn rfl), ⟨(kn rfl), trivial⟩⟩) (w_as rfl rfl rfl rfl rfl .nil))))) ?_
 try refine e_fl ?_
 exact e_returnx (pB l q) ([]) rfl (.tmp (kn rfl) (.nil)) (Imp.refl _) ⟨s_b, trivial⟩ trivial (⟨rfl, rfl, rfl⟩)
def takesOk (l : List Tk) : List (List UInt8) → Nat → Bool
 | [], _ => true
 | t :: ts, q => tkIs l q (kindT t) t && takesOk l ts (q + 1)
set_option maxRecDepth 100000 in
theorem take_g (gls : List (Nat × List Value)) (l : List Tk) (hl : PTk l) (ts : List (List UInt8)) (hts : ts.length ≤ 100) (hws : ∀ t ∈ ts, t ∈ ws) (q : Nat) (hq : q ≤ 150000) :
  EG Tryd.prog gls 29 [.box 1 0, .part (txsP ts)] (pB l q) [] (fun y B1 R1 => y = .part (bP (takesOk l ts q)) ∧ B1 = pB l (if takesOk l ts q then q + ts.length else q) ∧ R1 = []) := by
 refine eg_enter 37 Tryd.func29 rfl rfl rfl fun w D bor mb => ?_
 try refine e_fl ?_
 refine e_plain (w_as rfl rfl rfl rfl rfl .nil) ?_
 try refine e_fl ?_
 refine e_plain (w_mv rfl rfl rfl rfl rfl (w_op rfl rfl rfl (s_len rfl (kn rfl) sle_45) (w_mv rfl rfl rfl rfl rfl .nil))) ?_
 try refine e_fl ?_
 refine e_loop (ι := { i : Nat // i ≤ ts.length ∧ takesOk l ts q = takesOk l (ts.drop i) (q + i) })
  (fun i => [(0, .box 1 0), (1, .part (txsP ts)), (8, .part (txsP ts)), (9, .is (.int .i64 (ts.length : Int))), (10, .is (.int .i64 (i.1 : Int)))])
  (fun _ => pB l q) (fun _ => []) (fun i => ts.length - i.1) ⟨0, by omega, by simp⟩
  (fun K => e_sub ⟨s_t, s_t, s_t, s_t, s_t, trivial⟩ ⟨s_b, trivial⟩ trivial) ?_
 rintro ⟨i, hi, hw⟩
 dsimp only at hi hw ⊢
 try refine e_fl ?_
 refine e_plain (w_op rfl rfl rfl (s_bin rfl (kn rfl) (kn rfl) v_lss) .nil) ?_
 try refine e_fl ?_
 refine e_cond rfl (fun h => ?_) (fun h => ?_)
 ·have hlt : i < ts.length := by have := of_decide_eq_true h; omega
  obtain ⟨t, ht⟩ : ∃ t, ts[i]? = some t := ⟨_, List.getElem?_eq_getElem hlt⟩
  have hd : ts.drop i = t :: ts.drop (i + 1) := by
   rw [List.drop_eq_getElem_cons hlt]
   congr 1
   rw [List.getElem?_eq_getElem hlt] at ht
   exact Option.some.inj ht
  have hfit := hl.fit (q + i) t (hws t (List.mem_of_getElem? ht))
  rw [hd, takesOk] at hw
  try refine e_fl ?_
  refine e_plain (w_mv rfl rfl rfl rfl rfl (w_op rfl rfl rfl (s_index rfl (kn rfl) (kn rfl) (by omega) ht textDats_len sle_45 esz_45 rfl) (w_op rfl rfl rfl (s_load1_ref rfl (kn rfl) one_9) (w_as rfl rfl rfl rfl rfl (w_as rfl rfl rfl rfl rfl .nil))))) ?_
  try refine e_fl ?_
  refine e_list ?_
  refine l_mv ?_
  refine l_mv ?_
  refine l_op (s_callr rfl (by kernel_rfl) (ahead_r _ l hl.toTksOk q i (by omega) (by omega)) (kn rfl) rfl rfl ⟨kn rfl, trivial⟩) ?_
  refine e_alloc 7 [.is (.int .i64 0), .is (.string ⟨#[]⟩), .is (.int .i64 0), .is (.int .i64 0), .is (.int .i64 0)] rfl rfl rfl rfl zr_67 (fun w D M V => ⟨rfl, fun j x v h1 h2 => cfit_is _ h1 h2 rfl⟩) rfl rfl rfl rfl ?_
  refine e_storew rfl rfl rfl (kn rfl) rfl (kn rfl) rfl rfl sz_67 ?_
  refine e_nil ?_
  try refine e_fl ?_
  refine e_plain (w_op rfl rfl rfl (s_faddr_box rfl (kn rfl) off_67_0) (w_op rfl rfl rfl (s_load1_box rfl (kn rfl) rfl rfl one_3) (w_op rfl rfl rfl (s_bin rfl (kn rfl) (kn rfl) v_eql) (w_mv rfl rfl rfl rfl rfl (Walk.gd _ rfl rfl rfl (fun h => s_faddr_box rfl (kn rfl) off_67_1) (Walk.gd _ rfl rfl rfl (fun h => s_load1_box rfl (kn_opt rfl h) rfl rfl one_9) (Walk.gd _ rfl rfl rfl (fun h => s_move rfl (kn rfl)) (Walk.gd _ rfl rfl rfl (fun h => s_bin rfl (kn_opt rfl h) (kn_opt rfl h) (v_sneq)) (w_op rfl rfl rfl (s_or rfl (kn rfl) (fun hb => kn_opt rfl hb)) .nil))))))))) ?_
  try refine e_fl ?_
  refine e_cond rfl (fun h1 => ?_) (fun h1 => ?_)
  ·have h2 : tkIs l (q + i) (kindT t) t = false := not_t (hfit.symm.trans h1)
   have h3 : takesOk l ts q = false := by rw [hw, h2]; rfl
   try refine e_fl ?_
   refine e_plain (w_as rfl rfl rfl rfl rfl .nil) ?_
   try refine e_fl ?_
   exact e_returnx (pB l q) ([]) rfl (.tmp (kn rfl) (.nil)) (Imp.refl _) ⟨s_b, trivial⟩ trivial (⟨by rw [h3]; rfl, by rw [h3]; rfl, rfl⟩)
  have h2 : tkIs l (q + i) (kindT t) t = true := not_f (hfit.symm.trans h1)
  rw [h2, Bool.true_and] at hw
  try refine e_fl ?_
  refine e_plain (w_op rfl rfl rfl (s_bin rfl (kn rfl) (kn rfl) (v_add64 (by first | omega | (dsimp only; omega) | omega))) (w_mv rfl rfl rfl rfl rfl .nil)) ?_
  try refine e_fl ?_
  refine e_again ⟨i + 1, by omega, hw⟩ (by dsimp only; omega) (fun K => e_sub ⟨s_t, s_t, s_t, s_t, s_t, trivial⟩ ⟨s_b, trivial⟩ trivial)
 obtain rfl : i = ts.length := by have := of_decide_eq_false h; omega
 rw [List.drop_length, takesOk] at hw
 try refine e_fl ?_
 refine e_list ?_
 refine l_mv ?_
 refine l_op (s_nil_box rfl (kn rfl)) ?_
 refine l_op (s_faddr_box rfl (kn rfl) off_73_1) ?_
 refine l_op (s_load1_box rfl (kn rfl) rfl rfl one_3) ?_
 refine l_mv ?_
 refine l_op (s_len rfl (kn rfl) sle_45) ?_
 refine l_op (s_bin rfl (kn rfl) (kn rfl) (v_add64 (by first | omega | (dsimp only; omega) | omega))) ?_
 refine l_op (s_nil_box rfl (kn rfl)) ?_
 refine l_op (s_faddr_box rfl (kn rfl) off_73_1) ?_
 refine e_store1 rfl rfl rfl (kn rfl) rfl (kn rfl) rfl rfl sz_3 rfl ?_
 refine e_nil ?_
 try refine e_fl ?_
 refine e_plain (w_as rfl rfl rfl rfl rfl .nil) ?_
 try refine e_fl ?_
 exact e_returnx (pB l (q + ts.length)) ([]) rfl (.tmp (kn rfl) (.nil)) (Imp.refl _) ⟨s_b, trivial⟩ trivial (⟨by rw [hw]; rfl, by rw [hw]; rfl, rfl⟩)
theorem PY.tidy {l : List Tk} {q z : Nat} {p : Part} {y : IV} {B1 : BL} {R1 : RL} (h1 : y = .part p) (h2 : B1 = pB l z) (h3 : R1 = []) : Tidy (pB l q) [] y B1 R1 := by
 subst h1 h2 h3
 exact ⟨rfl, rfl, rfl, rfl⟩
theorem take1 (gls : List (Nat × List Value)) (l : List Tk) (hl : PTk l) (t : List UInt8) (k : Nat) (hk : kindT t = k) (hws : t ∈ ws) (q : Nat) (hq : q ≤ 150000) :
  EG Tryd.prog gls 29 [.box 1 0, .part (txsP [t])] (pB l q) [] (fun y B1 R1 => y = .part (bP (tkIs l q k t)) ∧ B1 = pB l (if tkIs l q k t then q + 1 else q) ∧ R1 = []) := by
 have h := take_g gls l hl [t] (by simp) (by simpa using hws) q hq
 have e : takesOk l [t] q = tkIs l q k t := by rw [takesOk, takesOk, hk, Bool.and_true]
 rw [e] at h
 exact h
set_option maxRecDepth 100000 in
theorem clone_ef (gls : List (Nat × List Value)) (t : List UInt8) (ht : t.length ≤ 140737488351232) : EF Tryd.prog gls 12 [sP t] (.part (sP t)) := fun w D vs _ _ hp => by
 obtain ⟨v, rfl, hv⟩ : ∃ v, vs = [v] ∧ v = .string (str t) := by
  match vs, hp with
  | [v], h => exact ⟨v, rfl, h.1.cell_eq⟩
 subst hv
 exact (clone_any w t ht).mono fun e w' ⟨h1, h2⟩ => ⟨_, _, h1, rfl, h2, fun _ _ => .cell _⟩
def TY (l : List Tk) (E9 : Er) (k q : Nat) (y : IV) (B1 : BL) (R1 : RL) : Prop :=
 ((tkAt l q).1.k ≠ k ∧ y = .tup [tkP tk0, fltP l q E9] ∧ B1 = pB l q ∧ R1 = []) ∨ ((tkAt l q).1.k = k ∧ y = .tup [tkP (tkAt l q), nilP] ∧ B1 = pB l (q + 1) ∧ R1 = [])
theorem TY.tidy {l : List Tk} {E9 : Er} {k q z : Nat} (y : IV) (B1 : BL) (R1 : RL) (h : TY l E9 k q y B1 R1) : Tidy (pB l z) [] y B1 R1 := by
 rcases h with ⟨_, rfl, rfl, rfl⟩ | ⟨_, rfl, rfl, rfl⟩ <;> exact ⟨rfl, rfl, rfl, rfl⟩
set_option maxRecDepth 100000 in
theorem token_g (E8 E9 : Er) (l : List Tk) (hl : TksOk l) (q k : Nat) (hq : q ≤ 150000) : EG Tryd.prog (gE E8 E9) 49 [.box 1 0, .part (iP k)] (pB l q) [] (TY l E9 k q) := by
 refine eg_enter 28 Tryd.func49 rfl rfl rfl fun w D bor mb => ?_
 try refine e_fl ?_
 have htx := hl.txt q
 refine e_list ?_
 refine e_alloc 4 [.is (.int .i64 0), .is (.string ⟨#[]⟩), .is (.int .i64 0), .is (.int .i64 0), .is (.int .i64 0)] rfl rfl rfl rfl zr_67 (fun w D M V => ⟨rfl, fun j x v h1 h2 => cfit_is _ h1 h2 rfl⟩) rfl rfl rfl rfl ?_
 refine l_as ?_
 refine e_nil ?_
 try refine e_fl ?_
 refine e_list ?_
 refine l_mv ?_
 refine l_op (s_callr rfl (by kernel_rfl) (ahead_r _ l hl q 0 (by omega) (by omega)) (kn rfl) rfl rfl ⟨kn rfl, trivial⟩) ?_
 refine e_alloc 6 [.is (.int .i64 0), .is (.string ⟨#[]⟩), .is (.int .i64 0), .is (.int .i64 0), .is (.int .i64 0)] rfl rfl rfl rfl zr_67 (fun w D M V => ⟨rfl, fun j x v h1 h2 => cfit_is _ h1 h2 rfl⟩) rfl rfl rfl rfl ?_
 refine e_storew rfl rfl rfl (kn rfl) rfl (kn rfl) rfl rfl sz_67 ?_
 refine e_nil ?_
 try refine e_fl ?_
 refine e_plain (w_op rfl rfl rfl (s_faddr_box rfl (kn rfl) off_67_0) (w_op rfl rfl rfl (s_load1_box rfl (kn rfl) rfl rfl one_3) (w_mv rfl rfl rfl rfl rfl (w_op rfl rfl rfl (s_bin rfl (kn rfl) (kn rfl) v_neq) .nil)))) ?_
 try refine e_fl ?_
 refine e_cond rfl (fun h => ?_) (fun h => ?_)
 ·have h1 : ¬ (tkAt l q).1.k = k := fun e => by
   rw [← e] at h
   simp at h
  try refine e_fl ?_
  refine e_list ?_
  refine l_op (s_build (ds := [_, _, _, _, _]) [] rfl trivial rfl pl_67 zr_67 (fun w D => .cons (.cell _) (.cons (.cell _) (.cons (.cell _) (.cons (.cell _) (.cons (.cell _) (.nil _ _)))))) rfl) ?_
  refine l_mv ?_
  refine e_calli rfl rfl rfl rfl (by kernel_rfl) (misfit_g E8 E9 l hl q (by omega)) ⟨rfl, trivial⟩ trivial ⟨(kn rfl), trivial⟩ (fun _ _ _ h => PY.tidy h.1 h.2.1 h.2.2) ?_
  rintro _ _ _ ⟨rfl, rfl, rfl⟩
  refine e_storew rfl rfl rfl (kn rfl) rfl (kn rfl) rfl rfl sz_67 ?_
  refine l_as ?_
  refine e_nil ?_
  try refine e_fl ?_
  exact e_returnx (pB l q) ([]) rfl (.cell rfl rfl rfl agg_67 sz_67 rfl (.tmp (kn rfl) (.nil))) (Imp.refl _) ⟨s_b, trivial⟩ trivial (.inl ⟨h1, rfl, rfl, rfl⟩)
 have h1 : (tkAt l q).1.k = k := by
  have h2 : decide (((tkAt l q).1.k : Int) = (k : Int)) = true := not_f h
  have := of_decide_eq_true h2
  omega
 try refine e_fl ?_
 refine e_list ?_
 refine l_mv ?_
 refine l_op (s_nil_box rfl (kn rfl)) ?_
 refine l_op (s_faddr_box rfl (kn rfl) off_73_1) ?_
 refine l_op (s_load1_box rfl (kn rfl) rfl rfl one_3) ?_
 refine l_op (s_bin rfl (kn rfl) (kn rfl) (v_add64 (by first | omega | (dsimp only; omega) | omega))) ?_
 refine l_op (s_nil_box rfl (kn rfl)) ?_
 refine l_op (s_faddr_box rfl (kn rfl) off_73_1) ?_
 refine e_store1 rfl rfl rfl (kn rfl) rfl (kn rfl) rfl rfl sz_3 rfl ?_
 refine e_nil ?_
 try refine e_fl ?_
 refine e_list ?_
 refine l_op (s_faddr_box rfl (kn rfl) off_67_1) ?_
 refine l_op (s_load1_box rfl (kn rfl) rfl rfl one_9) ?_
 refine l_op (s_call rfl (by kernel_rfl) (clone_ef _ (tkAt l q).1.t (by omega)) ⟨(kn rfl), trivial⟩) ?_
 refine l_op (s_faddr_box rfl (kn rfl) off_67_1) ?_
 refine e_store1 rfl rfl rfl (kn rfl) rfl (kn rfl) rfl rfl sz_9 rfl ?_
 refine e_nil ?_
 try refine e_fl ?_
 refine e_list ?_
 refine l_op (s_loadn_box (ds := [_, _, _, _, _]) 5 rfl (kn rfl) rfl rfl agg_67 sz_67 rfl) ?_
 refine e_storew rfl rfl rfl (kn rfl) rfl (kn rfl) rfl rfl sz_67 ?_
 refine l_as ?_
 refine e_nil ?_
 try refine e_fl ?_
 exact e_returnx (pB l (q + 1)) ([]) rfl (.cell rfl rfl rfl agg_67 sz_67 rfl (.tmp (kn rfl) (.nil))) (Imp.refl _) ⟨s_b, trivial⟩ trivial (.inr ⟨h1, rfl, rfl, rfl⟩)
abbrev erv (E8 E9 : Er) (b : Nat) : Er := if b = 8 then E8 else E9
def PE (l : List Tk) (E8 E9 : Er) (r : Ans8 Nat) (y : IV) (B1 : BL) (R1 : RL) : Prop :=
 (∃ a b z, r = .error (a, b) ∧ y = .part (fltP l a (erv E8 E9 b)) ∧ B1 = pB l z ∧ R1 = []) ∨ (∃ z, r = .ok z ∧ y = .part nilP ∧ B1 = pB l z ∧ R1 = [])
theorem PE.tidy {l : List Tk} {E8 E9 : Er} {r : Ans8 Nat} {q : Nat} (y : IV) (B1 : BL) (R1 : RL) (h : PE l E8 E9 r y B1 R1) : Tidy (pB l q) [] y B1 R1 := by
 rcases h with ⟨a, b, z, _, rfl, rfl, rfl⟩ | ⟨z, _, rfl, rfl, rfl⟩ <;> exact ⟨rfl, rfl, rfl, rfl⟩
set_option maxRecDepth 100000 in
theorem want_g (E8 E9 : Er) (l : List Tk) (hl : PTk l) (ts : List (List UInt8)) (hts : ts.length ≤ 100) (hws : ∀ t ∈ ts, t ∈ ws) (q : Nat) (hq : q ≤ 120000) :
  EG Tryd.prog (gE E8 E9) 31 [.box 1 0, .part (txsP ts)] (pB l q) [] (PE l E8 E9 (sWants l ts q)) := by
 refine eg_enter 21 Tryd.func31 rfl rfl rfl fun w D bor mb => ?_
 try refine e_fl ?_
 have hll := hl.len
 refine e_plain (w_as rfl rfl rfl rfl rfl .nil) ?_
 try refine e_fl ?_
 refine e_plain (w_mv rfl rfl rfl rfl rfl (w_op rfl rfl rfl (s_len rfl (kn rfl) sle_45) (w_mv rfl rfl rfl rfl rfl .nil))) ?_
 try refine e_fl ?_
 refine e_loop (ι := { i : Nat × Nat // i.1 ≤ ts.length ∧ i.2 ≤ 120000 + i.1 ∧ sWants l ts q = sWants l (ts.drop i.1) i.2 })
  (fun i => [(0, .box 1 0), (7, .part (txsP ts)), (8, .is (.int .i64 (ts.length : Int))), (9, .is (.int .i64 (i.1.1 : Int)))])
  (fun i => pB l i.1.2) (fun _ => []) (fun i => ts.length - i.1.1) ⟨(0, q), by simp, by dsimp only; omega, rfl⟩
  (fun K => e_sub ⟨s_t, s_t, s_t, s_t, trivial⟩ ⟨s_b, trivial⟩ trivial) ?_
 rintro ⟨⟨i, p⟩, hi, hp, hw⟩
 dsimp only at hi hp hw ⊢
 try refine e_fl ?_
 refine e_plain (w_op rfl rfl rfl (s_bin rfl (kn rfl) (kn rfl) v_lss) .nil) ?_
 try refine e_fl ?_
 refine e_cond rfl (fun h => ?_) (fun h => ?_)
 ·have hlt : i < ts.length := by have := of_decide_eq_true h; omega
  obtain ⟨t, ht⟩ : ∃ t, ts[i]? = some t := ⟨_, List.getElem?_eq_getElem hlt⟩
  have hd : ts.drop i = t :: ts.drop (i + 1) := by
   rw [List.drop_eq_getElem_cons hlt]
   congr 1
   rw [List.getElem?_eq_getElem hlt] at ht
   exact Option.some.inj ht
  rw [hd, sWants] at hw
  try refine e_fl ?_
  refine e_plain (w_op rfl rfl rfl (s_index rfl (kn rfl) (kn rfl) (by omega) ht textDats_len sle_45 esz_45 rfl) (w_op rfl rfl rfl (s_load1_ref rfl (kn rfl) one_9) (w_as rfl rfl rfl rfl rfl .nil))) ?_
  try refine e_fl ?_
  refine e_list ?_
  refine l_mv ?_
  refine l_mv ?_
  refine l_op (s_buildSlice (ds := [_]) [(0, _)] rfl ⟨rfl, (kn rfl), trivial⟩ rfl sl_45 sz_9 zr_9 (fun w D => .cons (.cell _) (.nil _ _)) rfl rfl rfl rfl rfl) ?_
  refine e_calli rfl rfl rfl rfl (by kernel_rfl) (take1 _ l hl t _ rfl (hws t (List.mem_of_getElem? ht)) p (by omega)) ⟨rfl, trivial⟩ trivial ⟨(kn rfl), ⟨(kn rfl), trivial⟩⟩ (fun _ _ _ h => PY.tidy h.1 h.2.1 h.2.2) ?_
  rintro _ _ _ ⟨rfl, rfl, rfl⟩
  refine l_op (s_not rfl (kn rfl)) ?_
  refine e_nil ?_
  try refine e_fl ?_
  refine e_cond rfl (fun h => ?_) (fun h => ?_)
  ·have h1 := not_t h
   have h2 : sWant l (kindT t) t p = .error (p, 9) := by unfold sWant; rw [h1]; rfl
   rw [h2] at hw
   rw [h1]
   try refine e_fl ?_
   refine e_list ?_
   refine l_mv ?_
   refine e_calli rfl rfl rfl rfl (by kernel_rfl) (misfit_g E8 E9 l hl.toTksOk p (by omega)) ⟨rfl, trivial⟩ trivial ⟨(kn rfl), trivial⟩ (fun _ _ _ h => PY.tidy h.1 h.2.1 h.2.2) ?_
   rintro _ _ _ ⟨rfl, rfl, rfl⟩
   refine l_as ?_
   refine e_nil ?_
   try refine e_fl ?_
   exact e_returnx (pB l p) ([]) rfl (.tmp (kn rfl) (.nil)) (Imp.refl _) ⟨s_b, trivial⟩ trivial (.inl ⟨p, 9, p, hw, rfl, rfl, rfl⟩)
  have h1 := not_f h
  have h2 : sWant l (kindT t) t p = .ok (p + 1) := by unfold sWant; rw [h1]; rfl
  rw [h2] at hw
  rw [h1]
  try refine e_fl ?_
  refine e_plain (w_op rfl rfl rfl (s_bin rfl (kn rfl) (kn rfl) (v_add64 (by first | omega | (dsimp only; omega) | omega))) (w_mv rfl rfl rfl rfl rfl .nil)) ?_
  try refine e_fl ?_
  refine e_again ⟨(i + 1, p + 1), by omega, by dsimp only; omega, hw⟩ (by dsimp only; omega) (fun K => e_sub ⟨s_t, s_t, s_t, s_t, trivial⟩ ⟨s_b, trivial⟩ trivial)
 obtain rfl : i = ts.length := by have := of_decide_eq_false h; omega
 rw [List.drop_length, sWants] at hw
 try refine e_fl ?_
 refine e_plain (w_as rfl rfl rfl rfl rfl .nil) ?_
 try refine e_fl ?_
 exact e_returnx (pB l p) ([]) rfl (.tmp (kn rfl) (.nil)) (Imp.refl _) ⟨s_b, trivial⟩ trivial (.inr ⟨p, hw, rfl, rfl, rfl⟩)
end Go.Proofs.YtekeanikgcpijaaDoor
namespace Go.Proofs.YtekeanikgcpijaaDoor
open Go.RowKit
abbrev byD (l : List UInt8) : List Dat := l.map fun b => .cell (bv b)
abbrev bB (c0 : IV) : BL := [(2, ⟨110, [c0, .own 200]⟩)]
abbrev bR (l : List UInt8) : RL := [(200, ⟨5, 1, l.length, byD l, false⟩)]
def BY (l : List UInt8) (y0 y : IV) (B1 : BL) (R1 : RL) : Prop := y = y0 ∧ B1 = bB (.box 2 0) ∧ R1 = bR l
theorem BY.tidy {l m : List UInt8} {c0 : IV} {ps : List Part} (y : IV) (B1 : BL) (R1 : RL) (h : BY l (.tup ps) y B1 R1) : Tidy (bB c0) (bR m) y B1 R1 := by
 obtain ⟨rfl, rfl, rfl⟩ := h
 exact ⟨rfl, rfl, rfl, rfl⟩
theorem noEscape_same (v : Value) (w : World) : (callFunc 76 #[v]).run Tryd.prog w = .ok (.value v) w := by
 rw [run_callFunc_extern (e := Extern.AbiNoEscape.same) Tryd.func76 (by kernel_rfl) (by kernel_rfl) (by rfl) (by rfl), Lib.run_noEscape]
 rfl
set_option maxRecDepth 100000 in
theorem copyCheck_nil (gls : List (Nat × List Value)) (l : List UInt8) : EG Tryd.prog gls 63 [.box 2 0] (bB (.is (.pointer none))) (bR l) (BY l (.tup [])) := by
 refine eg_enter 20 Tryd.func63 rfl rfl rfl fun w D bor mb => ?_
 try refine e_fl ?_
 refine e_plain (w_mv rfl rfl rfl rfl rfl (w_op rfl rfl rfl (s_nil_box rfl (kn rfl)) (w_op rfl rfl rfl (s_faddr_box rfl (kn rfl) off_110_0) (w_op rfl rfl rfl (s_load1_box rfl (kn rfl) rfl rfl one_108) (w_op rfl rfl rfl (s_ptr_nil rfl (kn rfl) (by kernel_rfl)) .nil))))) ?_
 try refine e_fl ?_
 refine c_yes ?_
 try refine e_fl ?_
 refine e_list ?_
 refine l_mv ?_
 refine l_mv ?_
 refine l_op (s_toU (t := 110) rfl (kn rfl) rfl (by kernel_rfl) (by kernel_rfl) (by kernel_rfl) rfl) ?_
 refine l_op (s_same rfl noEscape_same (kn rfl)) ?_
 refine l_op (s_fromU (u := 110) rfl (kn rfl) rfl (by kernel_rfl) (by kernel_rfl) (by kernel_rfl) (by kernel_rfl)) ?_
 refine l_op (s_nil_box rfl (kn rfl)) ?_
 refine l_op (s_faddr_box rfl (kn rfl) off_110_0) ?_
 refine e_store1 rfl rfl rfl (kn rfl) rfl (kn rfl) rfl rfl sz_108 rfl ?_
 refine e_nil ?_
 try refine e_fl ?_
 exact e_endx (bB (.box 2 0)) (bR l) rfl .nil (Imp.refl _) ⟨s_b, trivial⟩ ⟨rfl, trivial⟩ ⟨rfl, rfl, rfl⟩
set_option maxRecDepth 100000 in
theorem copyCheck_box (gls : List (Nat × List Value)) (l : List UInt8) : EG Tryd.prog gls 63 [.box 2 0] (bB (.box 2 0)) (bR l) (BY l (.tup [])) := by
 refine eg_enter 20 Tryd.func63 rfl rfl rfl fun w D bor mb => ?_
 try refine e_fl ?_
 refine e_plain (w_mv rfl rfl rfl rfl rfl (w_op rfl rfl rfl (s_nil_box rfl (kn rfl)) (w_op rfl rfl rfl (s_faddr_box rfl (kn rfl) off_110_0) (w_op rfl rfl rfl (s_load1_box rfl (kn rfl) rfl rfl one_108) (w_op rfl rfl rfl (s_ptr_box rfl (kn rfl) (by kernel_rfl)) .nil))))) ?_
 try refine e_fl ?_
 refine c_no ?_
 try refine e_fl ?_
 refine e_plain (w_mv rfl rfl rfl rfl rfl (w_op rfl rfl rfl (s_nil_box rfl (kn rfl)) (w_op rfl rfl rfl (s_faddr_box rfl (kn rfl) off_110_0) (w_op rfl rfl rfl (s_load1_box rfl (kn rfl) rfl rfl one_108) (w_mv rfl rfl rfl rfl rfl (w_op rfl rfl rfl (s_box_neq (te := 110) rfl (kn rfl) (kn rfl) (by kernel_rfl) (by kernel_rfl)) .nil)))))) ?_
 try refine e_fl ?_
 refine c_no ?_
 try refine e_fl ?_
 exact e_endx (bB (.box 2 0)) (bR l) rfl .nil (Imp.refl _) ⟨s_b, trivial⟩ ⟨rfl, trivial⟩ ⟨rfl, rfl, rfl⟩
theorem copyCheck_g (gls : List (Nat × List Value)) (c0 : IV) (h0 : c0 = .is (.pointer none) ∨ c0 = .box 2 0) (l : List UInt8) : EG Tryd.prog gls 63 [.box 2 0] (bB c0) (bR l) (BY l (.tup [])) := by
 rcases h0 with rfl | rfl
 ·exact copyCheck_nil gls l
 ·exact copyCheck_box gls l
set_option maxRecDepth 100000 in
theorem write_g (gls : List (Nat × List Value)) (c0 : IV) (h0 : c0 = .is (.pointer none) ∨ c0 = .box 2 0) (l t : List UInt8) (hl : l.length + t.length ≤ 140737488355328) : EG Tryd.prog gls 52 [.box 2 0, .part (sP t)] (bB c0) (bR l) (BY (l ++ t) (.tup [iP t.length, nilP])) := by
 refine eg_enter 19 Tryd.func52 rfl rfl rfl fun w D bor mb => ?_
 try refine e_fl ?_
 refine e_plain (w_as rfl rfl rfl rfl rfl (w_as rfl rfl rfl rfl rfl .nil)) ?_
 try refine e_fl ?_
 refine e_list ?_
 refine l_mv ?_
 refine e_calli rfl rfl rfl rfl (by kernel_rfl) (copyCheck_g gls c0 h0 l) ⟨rfl, trivial⟩ ⟨rfl, trivial⟩ ⟨(kn rfl), trivial⟩ (BY.tidy) ?_
 rintro _ _ _ ⟨rfl, rfl, rfl⟩
 refine e_nil ?_
 try refine e_fl ?_
 refine e_list ?_
 refine l_mv ?_
 refine l_mv ?_
 refine l_op (s_nil_box rfl (kn rfl)) ?_
 refine l_op (s_faddr_box rfl (kn rfl) off_110_1) ?_
 refine l_op (s_load1_box rfl (kn rfl) rfl rfl one_80) ?_
 refine l_mv ?_
 refine e_append_str rfl rfl rfl rfl (kn rfl) rfl (kn rfl) sl_80 str_9 (by kernel_rfl) (by omega) ?_
 refine l_op (s_nil_box rfl (kn rfl)) ?_
 refine l_op (s_faddr_box rfl (kn rfl) off_110_1) ?_
 refine e_store_own rfl rfl rfl (kn rfl) rfl (kn rfl) rfl rfl sz_80 rfl ?_
 refine e_nil ?_
 try refine e_fl ?_
 refine e_plain (w_mv rfl rfl rfl rfl rfl (w_op rfl rfl rfl (s_slen rfl (kn rfl) str_9) (w_as rfl rfl rfl rfl rfl (w_as rfl rfl rfl rfl rfl .nil)))) ?_
 try refine e_fl ?_
 exact e_returnx (bB (.box 2 0)) (bR (l ++ t)) rfl (.tmp (kn rfl) (.tmp (kn rfl) (.nil))) (Imp.refl _) ⟨s_b, trivial⟩ ⟨rowEq rfl (by simp) (by simp [byD]), trivial⟩ (⟨rfl, rfl, rfl⟩)
structure Else (g : Nat) (w w' : World) : Prop where
 os : w'.os = w.os
 tape : w'.tape = w.tape
 output : w'.output = w.output
 size : w'.heap.size = w.heap.size
 block : ∀ k, k ≠ g → w'.heap[k]? = w.heap[k]?
theorem else_freeze (w : World) (g n : Nat) : Else g w (w.freeze ⟨g, 0, none⟩ n) := by
 unfold World.freeze
 split
 ·exact ⟨rfl, rfl, rfl, rfl, fun _ _ => rfl⟩
 ·exact ⟨rfl, rfl, rfl, by simp, fun k hk => by
   simp only [Array.getElem?_modify]
   rw [if_neg (Ne.symm hk)]⟩
theorem else_drew {g : Nat} {w w' : World} (h : Else g w.drew w') : Else g w w' := ⟨h.os, h.tape, h.output, h.size, h.block⟩
theorem infoByteU : Tryd.prog.cellsOf 5 = 1 := by kernel_rfl
set_option maxRecDepth 100000 in
set_option maxHeartbeats 1000000 in
theorem string_raw (w : World) (b : Nat) (l : List UInt8) (p v : Value) (hk : Blk w b 110 [p, v]) (hown : w.ownsRow 0 5 1 v l.length (l.map bv)) (hl : l ≠ []) (hlen : l.length ≤ 140737488355328) :
  Calls Tryd.prog 53 #[.pointer (some ⟨b, 0, none⟩)] w fun e w' => e = .returned (.string (str l)) ∧ ∃ g, v.ownBlock = some g ∧ Else g w w' := by
 have hpos : 0 < l.length := List.length_pos_iff.2 hl
 obtain ⟨g, cap, rest, rfl, _, hg, hnc, _, _⟩ := own_blk hown hpos
 have c1 : w.drew.cell? ⟨b, 1, none⟩ = some (.slice (some ⟨g, 0, none⟩) l.length cap) := (hk.drewN 1).cell 1
 have hdata : (Builtin.unsafeSliceData_ #[80] 81 #[.slice (some ⟨g, 0, none⟩) l.length cap]).run Tryd.prog w.drew = .ok (.pointer (some ⟨g, 0, none⟩)) w.drew := Lib.run_unsafeSliceData_row _ _ _ _ _ _ (by omega)
 have hstr : (Builtin.unsafeString_ #[81, 3] 9 #[.pointer (some ⟨g, 0, none⟩), .int .i64 (l.length : Int)]).run Tryd.prog w.drew = .ok (.string (str l)) (w.drew.freeze ⟨g, 0, none⟩ l.length) :=
  Lib.run_unsafeString_row _ _ _ _ 5 Tryd.underlying81 infoByteU g (l.map bv ++ rest).length (blk_shape (hg.drewN 1)) l hl (by simp) (by omega) fun j x hx => by
   have hj : j < l.length := (List.getElem?_eq_some_iff.1 hx).1
   rw [Addr.add_lit, Nat.zero_add, (hg.drewN 1).cell, List.getElem?_append_left (by simpa using hj), List.getElem?_map, hx]
   rfl
 have hend : ∃ h, (Value.slice (some ⟨g, 0, none⟩) l.length cap).ownBlock = some h ∧ Else h w (w.drew.freeze ⟨g, 0, none⟩ l.length) := ⟨g, rfl, else_drew (else_freeze _ _ _)⟩
 clear hk hown hg hl
 go_enter Tryd.func53, Tryd.ntmps53
 go_wp2
 go_region
 all_goals
  go_wp2
  go_ret
  exact ⟨rfl, hend⟩
def StrY (l : List UInt8) (y : IV) (B1 : BL) (R1 : RL) : Prop := y = .part (sP l) ∧ B1 = [(2, ⟨110, [.junk, .junk]⟩)] ∧ R1 = [(200, ⟨5, 1, 0, [], true⟩)]
theorem StrY.tidy {l m : List UInt8} {c0 : IV} (y : IV) (B1 : BL) (R1 : RL) (h : StrY l y B1 R1) : Tidy (bB c0) (bR m) y B1 R1 := by
 obtain ⟨rfl, rfl, rfl⟩ := h
 exact ⟨rfl, rfl, rfl, rfl⟩
theorem fits_only {w : World} {D : Nat → Prop} : ∀ {cs xs : List Value}, Fits w D (cs.map .cell) xs → xs = cs
 | [], xs, h => List.length_eq_zero_iff.1 (by simpa using h.1.symm)
 | c :: cs, xs, h => by
  obtain ⟨x, ys, rfl, h1, h2⟩ := h.head
  rw [h1.cell_eq, fits_only h2]
theorem string_g (gls : List (Nat × List Value)) (c0 : IV) (l : List UInt8) (hl : l ≠ []) (hlen : l.length ≤ 140737488355328) : EG Tryd.prog gls 53 [.box 2 0] (bB c0) (bR l) (StrY l) := fun w D M V vs n hh hp => by
 obtain ⟨v, rfl, hv⟩ : ∃ v, vs = [v] ∧ v = .pointer (some ⟨M 2, 0, none⟩) := by
  match vs, hp with
  | [v], h => exact ⟨v, rfl, h.1⟩
 subst hv
 obtain ⟨hb1, cs, hblk, hfit⟩ := hh.box 2 ⟨110, [c0, .own 200]⟩ rfl
 have hrow := hh.row 200 ⟨5, 1, l.length, byD l, false⟩ rfl
 obtain ⟨xs, hown, hfx⟩ : Gr w _ 0 5 1 (V 200) l.length (byD l) := Gx.row hrow rfl
 have hxs : xs = l.map bv := fits_only (by rw [List.map_map]; exact hfx)
 subst hxs
 obtain ⟨p, v2, rfl⟩ : ∃ p v2, cs = [p, v2] := by
  match cs, hfit.1 with
  | [p, v2], _ => exact ⟨p, v2, rfl⟩
 have hv2 : v2 = V 200 := (hfit.2 1 (.own 200) v2 rfl rfl).1
 subst hv2
 refine (string_raw w (M 2) l p (V 200) hblk hown hl hlen).mono fun e w' ⟨h1, g, h2, h3⟩ => ?_
 replace h2 := (obk_row hown).trans h2
 have hg : M 2 ≠ g := hh.br 2 200 _ _ g rfl rfl rfl h2
 have hbor : Bor (bB c0) (bR l) M V g := .inr ⟨200, _, rfl, rfl, h2⟩
 refine ⟨_, _, _, _, M, fun _ => .slice none 0 0, h1, ⟨rfl, rfl, rfl⟩, ⟨⟨h3.os, h3.tape, h3.output, Nat.le_of_eq h3.size.symm, fun k hk hnb => h3.block k fun e => hnb (e ▸ hbor)⟩, hh.d0, hh.bl, hh.gl, fun b x hx => ?_, fun r x hx => ?_, fun r x g hx hf => ?_, hh.pin, fun b c x y hx hy _ => ?_, fun b r x y g hx hy hf => ?_, fun r q x y g hx hy hf => ?_⟩, .cell _⟩
 ·rcases lk_cons hx with ⟨rfl, rfl⟩ | ⟨_, hx⟩
  ·exact ⟨hb1, _, by unfold Blk at hblk ⊢; rw [h3.block _ hg]; exact hblk, rfl, fun j x v hx hv => ⟨by
    match j, hx with
    | 0, hx => obtain rfl := Option.some.inj hx; trivial
    | 1, hx => obtain rfl := Option.some.inj hx; trivial
    | j + 2, hx => simp at hx, by
    match j, hv with
    | 0, hv => exact (hfit.2 0 _ v rfl hv).2
    | 1, hv => exact (hfit.2 1 _ v rfl hv).2
    | j + 2, hv => simp at hv⟩⟩
  ·cases hx
 ·rcases lk_cons hx with ⟨rfl, rfl⟩ | ⟨_, hx⟩
  ·exact .none _ _ _
  ·cases hx
 ·rcases lk_cons hx with ⟨rfl, rfl⟩ | ⟨_, hx⟩
  ·cases hf
  ·cases hx
 ·rcases lk_cons hx with ⟨rfl, rfl⟩ | ⟨_, hx⟩
  ·rcases lk_cons hy with ⟨rfl, rfl⟩ | ⟨_, hy⟩
   ·rfl
   ·cases hy
  ·cases hx
 ·rcases lk_cons hy with ⟨rfl, rfl⟩ | ⟨_, hy⟩
  ·cases hf
  ·cases hy
 ·rcases lk_cons hx with ⟨rfl, rfl⟩ | ⟨_, hx⟩
  ·cases hf
  ·cases hx
end Go.Proofs.YtekeanikgcpijaaDoor
namespace Go.Proofs.YtekeanikgcpijaaDoor
open Go.RowKit
theorem Res.next {β γ : Type} {r : Ans8 β} {R : Ans8 γ} {v : β} {u : γ} {a b : Nat} (hr : Res r v a b) (hok : r = .ok v → R = .ok u) (her : r = .error (a, b) → R = .error (a, b)) : Res R u a b := by
 rcases hr with ⟨h1, h2, h3⟩ | ⟨h1, h3⟩
 ·exact .inl ⟨h1, h2, hok h3⟩
 ·exact .inr ⟨h1, her h3⟩
end Go.Proofs.YtekeanikgcpijaaDoor
namespace Go.Proofs.YtekeanikgcpijaaDoor
open Go.RowKit
theorem isText_eq (l : List Tk) (p : Nat) : (decide ((p : Int) < (l.length : Int)) && decide (((tkAt l p).1.k : Int) = 3)) = isText l p := by
 rw [int_lt, show decide (((tkAt l p).1.k : Int) = 3) = decide ((tkAt l p).1.k = 3) from int_eq _ 3]
 unfold isText
 by_cases h : p < l.length
 ·rw [tkAt_lt h, decide_eq_true h]
  simp
 ·rw [List.getElem?_eq_none (by omega), decide_eq_false h]
  simp
end Go.Proofs.YtekeanikgcpijaaDoor
