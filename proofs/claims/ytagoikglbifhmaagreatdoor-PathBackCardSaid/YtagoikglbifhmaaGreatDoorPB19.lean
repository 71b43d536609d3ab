/- Part 19 of what the last text of this claim is proved by: walks over the program, and the math behind them. Conditions: as each theorem says. -/
import Derived.Test.YtagoikglbifhmaaGreatDoorPB18
import Derived.Test.YtagoikglbifhmaaGreatDoorProg
import Derived.Test.YtagoikglbifhmaaGreatDoorRows
import Derived.ProofKit
import Derived.LaidMore
import Derived.LaidLaws
import Derived.Stop.LaidErr
import Derived.MakeChecks
import Derived.Lib.LaidTab
import Derived.OpenShut
import Derived.Carry
import Derived.ChangeSame
namespace Go.Proofs.YtagoikglbifhmaaGreatDoor
open Go.RowKit
theorem short_leaf (k : Int) (n : Nat) (t : List UInt8) : Short (.mk k n t [] [] [] []) := by
  show vnodes _ ≤ 1000000
  rw [vnodes_eq]
  simp [Vl.list, Vl.fields, Vl.pairs, lnodes, fnodes, pnodes]
theorem keyOf_ok (l : List UInt8) : (keyOf l).num < 18446744073709551616 ∧ Short (keyOf l) := by
  unfold keyOf
  split
  · exact ⟨(by show 0 < _; omega), short_leaf _ _ _⟩
  · split
    · rename_i u h
      have := Lib.parseUintB_le h
      exact ⟨by show u < _; omega, short_leaf _ _ _⟩
    · exact ⟨by decide, short_leaf _ _ _⟩
theorem fst1_key (c : UInt8) (l : List UInt8) : (fst1 c l).1.key.num < 18446744073709551616 ∧ Short (fst1 c l).1.key := by
  have h0 : (vnone).num < 18446744073709551616 ∧ Short vnone := ⟨by decide, short_leaf _ _ _⟩
  unfold fst1
  split
  · exact h0
  split
  · exact h0
  split
  · exact h0
  split
  · exact keyOf_ok _
  split
  · show (listed _).key.num < _ ∧ Short (listed _).key
    unfold listed
    split <;> exact h0
  · exact h0
theorem psteps_keys : ∀ (l : List UInt8), ∀ s ∈ psteps l, s.key.num < 18446744073709551616 ∧ Short s.key
  | [], s, h => by rw [psteps] at h; cases h
  | c :: l, s, h => by
    have hle := fst1_le c l
    rw [psteps_cons] at h
    rcases List.mem_cons.1 h with rfl | h
    · exact fst1_key c l
    · exact psteps_keys (fst1 c l).2 s h
termination_by l => l.length
decreasing_by
  have := fst1_le c l
  simp only [List.length_cons]
  omega
theorem psteps_ok {s : List UInt8} (h : s.length ≤ 100000) : PathOk (psteps s) :=
  ⟨by have := psteps_len s; omega, fun x hx => (psteps_keys s x hx).1, fun x hx => (psteps_keys s x hx).2⟩
structure PG (gls : List (Nat × List Value)) (eF : Value) : Prop where
  err : ErrG gls
  form : (0, [eF]) ∈ gls
  ifc : ∃ t p, eF = .iface t p
def PY (eF : Value) (s : List UInt8) : IV := if ptext (psteps s) = s then .tup [stD (psteps s), .one (.cell .nilIface)] else .tup [stD [], .one (.cell eF)]
theorem flats_one (l : List St) (x : St) : (l ++ [x]).flatMap stDats = l.flatMap stDats ++ sd x := by rw [List.flatMap_append, ← stDats_sd]; simp
set_option maxRecDepth 100000 in
set_option maxHeartbeats 1000000 in
theorem parse_q {gls : List (Nat × List Value)} {eF : Value} (hg : PG gls eF) (s : List UInt8) (hs : s.length ≤ 100000) : EFq Tryz.prog Tb gls 22 [sP s] (PY eF s) := by
  have hok := psteps_ok hs
  refine efq_enter 25 Tryz.func22 rfl rfl rfl fun w D hq => ?_
  try refine e_fl ?_
  refine e_plain (w_as rfl rfl rfl rfl rfl (w_as rfl rfl rfl rfl rfl .nil)) ?_
  try refine e_fl ?_
  refine e_plain (w_as rfl rfl rfl rfl rfl .nil) ?_
  try refine e_fl ?_
  refine e_plain (w_mv rfl rfl rfl rfl rfl (w_as rfl rfl rfl rfl rfl .nil)) ?_
  try refine e_fl ?_
  refine e_row_slot 4 100 62 10 rfl rfl rfl ?_
  refine e_loop (ι := { i : List St × List UInt8 // psteps s = i.1 ++ psteps i.2 ∧ i.2.length ≤ s.length ∧ i.1.length ≤ s.length - i.2.length })
    (fun i => [(0, .part (sP s)), (4, .own 100), (5, .part (sP i.1.2))])
    (fun _ => []) (fun i => [(100, ⟨62, 10, i.1.1.length, i.1.1.flatMap stDats, false⟩)]) (fun i => i.1.2.length) ⟨([], s), rfl, Nat.le_refl _, by simp⟩
    (fun K => e_sub ⟨s_t, s_t, s_t, trivial⟩ trivial ⟨rfl, trivial⟩) ?_
  rintro ⟨⟨m, l⟩, hw, hl, hm⟩
  dsimp only at hw hl hm ⊢
  try refine e_fl ?_
  refine e_plain (w_mv rfl rfl rfl rfl rfl (w_op rfl rfl rfl (s_bin rfl (kn rfl) (kn rfl) (v_sneq (b := []))) .nil)) ?_
  try refine e_fl ?_
  refine e_cond rfl (fun h => ?_) (fun h => ?_)
  · obtain ⟨c, r, rfl⟩ : ∃ c r, l = c :: r := by
      cases l with
      | nil => cases h
      | cons c r => exact ⟨c, r, rfl⟩
    have hlr : (c :: r).length = r.length + 1 := rfl
    have hf := fst1_le c r
    try refine e_fl ?_
    refine e_list ?_
    refine e_alloc 6 [.is (.int .i64 0), .is (.int .i64 0), .is (.int .i64 0), .is (.int .i64 0), .is (.int .u64 0), .is (.string ⟨#[]⟩), .is (.slice none 0 0), .is (.string ⟨#[]⟩), .is (.slice none 0 0), .is (.slice none 0 0)] rfl rfl rfl rfl zr_62 (fun w D M V => ⟨rfl, fun j x v h1 h2 => cfit_is _ h1 h2 rfl⟩) rfl rfl rfl rfl ?_
    refine e_nil ?_
    try refine e_fl ?_
    refine e_list ?_
    refine l_mv ?_
    refine l_op (s_call rfl (by kernel_rfl) (first_ef hg.err c r (by omega)) ⟨(kn rfl), trivial⟩) ?_
    refine l_mv ?_
    refine l_ex ?_
    refine l_ex ?_
    refine e_storew rfl rfl rfl (kn rfl) rfl (kn rfl) rfl rfl sz_62 ?_
    refine l_as ?_
    refine e_nil ?_
    try refine e_fl ?_
    refine e_list ?_
    refine l_mv ?_
    refine l_op (s_loadn_box (ds := [_, _, _, _, _, _, _, _, _, _]) 10 rfl (kn rfl) rfl rfl agg_62 sz_62 rfl) ?_
    refine l_op (s_buildSlice (ds := [_, _, _, _, _, _, _, _, _, _]) [(0, _)] rfl ⟨rfl, (kn rfl), trivial⟩ rfl sl_29 sz_62 zr_62 (fun w D => .cons (.cell _) (.cons (.cell _) (.cons (.cell _) (.cons (.cell _) (.cons (.cell _) (.cons (.cell _) (.cons (.cell _) (.cons (.cell _) (.cons (.cell _) (.cons (.cell _) (.nil _ _))))))))))) rfl rfl rfl rfl rfl) ?_
    refine e_append rfl rfl rfl rfl (kn rfl) rfl (kn rfl) sl_29 ap_29 rfl rfl (by first | omega | (dsimp only; omega) | omega) (by first | omega | (dsimp only; omega) | omega) ?_
    refine l_as ?_
    refine e_nil ?_
    try refine e_fl ?_
    refine e_again ⟨(m ++ [(fst1 c r).1], (fst1 c r).2), by rw [hw, psteps_cons]; simp, by dsimp only; omega, by dsimp only; rw [List.length_append]; simp only [List.length_cons, List.length_nil]; omega⟩ (by dsimp only; omega) (fun K => e_sub ⟨s_t, s_t, s_t, trivial⟩ trivial ⟨rowEq rfl (by simp) (by rw [flats_one]; rfl), trivial⟩)
  obtain rfl : l = [] := by
    cases l with
    | nil => rfl
    | cons c r => exact absurd h (by simp)
  have e : psteps s = m := by rw [hw, psteps, List.append_nil]
  have hok' : PathOk m := e ▸ hok
  try refine e_fl ?_
  refine e_freeze_slot 4 100 rfl rfl rfl ?_
  refine e_plain (w_mv rfl rfl rfl rfl rfl (w_op rfl rfl rfl (s_callw rfl (by kernel_rfl) (efq_w tb_stab hq (ptext_q _ m hok') (fun _ h => h) (fun _ h => h)) ⟨(kn rfl), trivial⟩) (w_mv rfl rfl rfl rfl rfl (w_op rfl rfl rfl (s_bin rfl (kn rfl) (kn rfl) (v_sneq)) .nil)))) ?_
  try refine e_fl ?_
  refine e_cond rfl (fun h => ?_) (fun h => ?_)
  · have hn : ¬ ptext (psteps s) = s := by rw [e]; simpa using h
    try refine e_fl ?_
    refine e_draw mixed (by kernel_rfl) (w_op rfl rfl rfl (s_load_gl rfl (kn rfl) hg.form one_56) (w_as rfl rfl rfl rfl rfl (w_as rfl rfl rfl rfl rfl .nil))) ?_
    try refine e_fl ?_
    exact e_return rfl rfl (.tmp (kn rfl) (.tmp (kn rfl) (.nil))) ((by rw [PY, if_neg hn]; exact Imp.tup ⟨DImp.nil 10, DImp.refl _, trivial⟩)) rfl
  · have hy : ptext (psteps s) = s := by rw [e]; simpa using h
    try refine e_fl ?_
    refine e_plain (w_mv rfl rfl rfl rfl rfl (w_as rfl rfl rfl rfl rfl (w_as rfl rfl rfl rfl rfl .nil))) ?_
    try refine e_fl ?_
    exact e_return rfl rfl (.tmp (kn rfl) (.tmp (kn rfl) (.nil))) (Imp.of_eq (by rw [PY, if_pos hy, e]; rfl)) rfl
def exP : List St := [⟨1, 1, 0, vnone⟩, ⟨2, 0, 0, ktxt [97]⟩, ⟨3, 2, 0, vnone⟩]
def exT : List UInt8 := [46, 49, 123, 39, 54, 49, 39, 125, 91, 50, 93]
theorem itoa_1 : Lib.itoa 1 = [49] := by rw [itoa_nat (by decide), show (1 : Int).toNat = 1 from rfl, Lib.decDigits, dif_pos (by decide)]; rfl
theorem itoa_2 : Lib.itoa 2 = [50] := by rw [itoa_nat (by decide), show (2 : Int).toNat = 2 from rfl, Lib.decDigits, dif_pos (by decide)]; rfl
theorem exP_text : exP.flatMap stT = exT := by
  show (46 :: Lib.itoa 1) ++ ((123 :: (keyT (ktxt [97]) ++ [125])) ++ ((91 :: (Lib.itoa 2 ++ [93])) ++ [])) = exT
  rw [itoa_1, itoa_2]
  decide +kernel
theorem vright_none : vright vnone = true := by rw [vright_eq]; decide +kernel
theorem vright_txt (l : List UInt8) : vright (ktxt l) = true := by
  rw [vright_eq]
  show (vplain (ktxt l) && true && true && true) = true
  simp [vplain, ktxt, Vl.kind, Vl.num, Vl.text, Vl.fields, Vl.rest, Vl.list, Vl.pairs]
theorem exP_right : exP.all srt = true := by
  have h1 := vright_none
  have h2 : vright (.mk 2 0 [97] [] [] [] []) = true := vright_txt [97]
  simp [exP, srt, snumR, stoR, skeyF, h1, h2, Vl.kind, ktxt, Vl.text]
theorem exP_ok : PathOk exP := ⟨by decide, by decide +kernel, by
  intro s hs
  simp only [exP, List.mem_cons, List.not_mem_nil, or_false] at hs
  rcases hs with rfl | rfl | rfl <;> exact short_leaf _ _ _⟩
theorem exT_steps : psteps exT = exP := by rw [← exP_text]; exact psteps_text exP_right exP_ok.2.1
theorem exT_text : ptext exP = exT := by rw [ptext, if_pos exP_right, exP_text]
theorem exParse {gls : List (Nat × List Value)} {eF : Value} (hg : PG gls eF) : EFq Tryz.prog Tb gls 22 [sP exT] (.tup [stD exP, .one (.cell .nilIface)]) := by
  have h := parse_q hg exT (by decide)
  rwa [PY, exT_steps, if_pos exT_text] at h
theorem exText (gls : List (Nat × List Value)) : EFq Tryz.prog Tb gls 23 [stD exP] (.part (sP exT)) := by
  have h := ptext_q gls exP exP_ok
  rwa [exT_text] at h
set_option maxRecDepth 100000 in
set_option maxHeartbeats 1000000 in
theorem palive_q {gls : List (Nat × List Value)} {eF : Value} (hg : PG gls eF) : EFq Tryz.prog Tb gls 6 [] (.part (tP true)) := by
  refine efq_enter 41 Tryz.func6 rfl rfl rfl fun w D hq => ?_
  try refine e_fl ?_
  refine e_plain (w_as rfl rfl rfl rfl rfl .nil) ?_
  try refine e_fl ?_
  refine e_plain (w_op rfl rfl rfl (s_callw rfl (by kernel_rfl) (efq_w tb_stab hq (exParse hg) (fun _ h => h) (fun _ h => h)) ⟨(kn rfl), trivial⟩) (w_mv rfl rfl rfl rfl rfl (w_op rfl rfl rfl (s_extract rfl (kn rfl) rfl) (w_op rfl rfl rfl (s_extract rfl (kn rfl) rfl) (w_as rfl rfl rfl rfl rfl (w_as rfl rfl rfl rfl rfl .nil)))))) ?_
  try refine e_fl ?_
  refine e_plain (w_mv rfl rfl rfl rfl rfl (w_op rfl rfl rfl (s_nil_eql rfl (kn rfl) ifc_56) (w_mv rfl rfl rfl rfl rfl (Walk.gd _ rfl rfl rfl (fun h => s_move rfl (kn rfl)) (Walk.gd _ rfl rfl rfl (fun h => s_len rfl (kn_opt rfl h) sle_29) (Walk.gd _ rfl rfl rfl (fun h => s_bin rfl (kn_opt rfl h) (kn rfl) v_eql) (w_op rfl rfl rfl (s_and rfl (kn rfl) (fun hb => kn_opt rfl hb)) (w_mv rfl rfl rfl rfl rfl (Walk.gd _ rfl rfl rfl (fun h => s_move rfl (kn rfl)) (Walk.gd _ rfl rfl rfl (fun h => s_index rfl (kn_opt rfl h) (kn rfl) (by omega) rfl stDats_len sle_29 esz_29 (stDats_sd ⟨1, 1, 0, vnone⟩)) (Walk.gd _ rfl rfl rfl (fun h => s_faddr_ref rfl (kn_opt rfl h) off_62_1) (Walk.gd _ rfl rfl rfl (fun h => s_load1_ref rfl (kn_opt rfl h) one_3) (Walk.gd _ rfl rfl rfl (fun h => s_bin rfl (kn_opt rfl h) (kn rfl) v_eql) (w_op rfl rfl rfl (s_and rfl (kn rfl) (fun hb => kn_opt rfl hb)) (w_mv rfl rfl rfl rfl rfl (Walk.gd _ rfl rfl rfl (fun h => s_move rfl (kn rfl)) (Walk.gd _ rfl rfl rfl (fun h => s_index rfl (kn_opt rfl h) (kn rfl) (by omega) rfl stDats_len sle_29 esz_29 (stDats_sd ⟨2, 0, 0, ktxt [97]⟩)) (Walk.gd _ rfl rfl rfl (fun h => s_faddr_ref rfl (kn_opt rfl h) off_62_3) (Walk.gd _ rfl rfl rfl (fun h => s_faddr_ref rfl (kn_opt rfl h) off_27_2) (Walk.gd _ rfl rfl rfl (fun h => s_load1_ref rfl (kn_opt rfl h) one_9) (Walk.gd _ rfl rfl rfl (fun h => s_bin rfl (kn_opt rfl h) (kn rfl) (v_seql (a := [97]) (b := [97]))) (w_op rfl rfl rfl (s_and rfl (kn rfl) (fun hb => kn_opt rfl hb)) (w_mv rfl rfl rfl rfl rfl (Walk.gd _ rfl rfl rfl (fun h => s_move rfl (kn rfl)) (Walk.gd _ rfl rfl rfl (fun h => s_index rfl (kn_opt rfl h) (kn rfl) (by omega) rfl stDats_len sle_29 esz_29 (stDats_sd ⟨3, 2, 0, vnone⟩)) (Walk.gd _ rfl rfl rfl (fun h => s_faddr_ref rfl (kn_opt rfl h) off_62_0) (Walk.gd _ rfl rfl rfl (fun h => s_load1_ref rfl (kn_opt rfl h) one_3) (Walk.gd _ rfl rfl rfl (fun h => s_bin rfl (kn_opt rfl h) (kn rfl) v_eql) (w_op rfl rfl rfl (s_and rfl (kn rfl) (fun hb => kn_opt rfl hb)) (w_mv rfl rfl rfl rfl rfl (Walk.gd _ rfl rfl rfl (fun h => s_move rfl (kn rfl)) (Walk.gd _ rfl rfl rfl (fun h => s_callw rfl (by kernel_rfl) (efq_w tb_stab hq (exText _) (fun _ h => h) (fun _ h => h)) ⟨(kn_opt rfl h), trivial⟩) (Walk.gd _ rfl rfl rfl (fun h => s_bin rfl (kn_opt rfl h) (kn rfl) (v_seql (a := exT) (b := exT))) (w_op rfl rfl rfl (s_and rfl (kn rfl) (fun hb => kn_opt rfl hb)) (w_as rfl rfl rfl rfl rfl .nil))))))))))))))))))))))))))))))))))) ?_
  try refine e_fl ?_
  exact e_return rfl rfl (.tmp (kn rfl) (.nil)) (tP_eq rfl) rfl
theorem plong_no {p : List St} (h : plong p = false) : p.length ≤ 20 ∧ (∀ s ∈ p, vbig s.key 10 = false) := by
  unfold plong at h
  simp only [Bool.or_eq_false_iff, decide_eq_false_iff_not, List.any_eq_false] at h
  exact ⟨by omega, fun s hs => by simpa using h.2 s hs⟩
theorem plong_ok {p : List St} (hf : KeysFine p) (h : plong p = false) : PathOk p := by
  obtain ⟨h1, h2⟩ := plong_no h
  refine ⟨by omega, fun s hs => (hf s hs).bounds.1, fun s hs => ?_⟩
  have := (vbig_no (by decide) (h2 s hs)).1
  show vnodes s.key ≤ 1000000
  omega
theorem psteps_right {s : List UInt8} (h : ptext (psteps s) = s) : (psteps s).all srt = true := by
  cases ha : (psteps s).all srt
  · have e : ptext (psteps s) = [] := if_neg (by rw [ha]; decide)
    rw [e] at h
    rw [← h, psteps] at ha
    cases ha
  · rfl
theorem short_step {s : St} (h : srt s = true) (hn : s.key.num < 18446744073709551616) (ht : s.key.text.length ≤ 400) : (stT s).length ≤ 1000 := by
  have h1 := srt_num h
  have h2 := itoa_len20 h1.1 h1.2
  have h3 : (keyT s.key).length ≤ 802 := by
    unfold keyT
    split
    · have := dec_len hn
      omega
    · simp only [List.length_cons, List.length_append, hx_len, List.length_nil]
      omega
  unfold stT
  repeat' split
  all_goals simp only [List.length_cons, List.length_append, List.length_nil]
  all_goals try omega
  rename_i _ _ _ _ h5
  have h4 := srt_to h h5
  have h6 := itoa_len20 h4.1 h4.2
  omega
theorem short_texts {p : List St} (h : p.all srt = true) (hn : ∀ s ∈ p, s.key.num < 18446744073709551616) (ht : ∀ s ∈ p, s.key.text.length ≤ 400) : (p.flatMap stT).length ≤ p.length * 1000 := by
  induction p with
  | nil => exact Nat.le_refl _
  | cons s p ih =>
    rw [List.all_cons, Bool.and_eq_true] at h
    have h1 := short_step h.1 (hn s List.mem_cons_self) (ht s List.mem_cons_self)
    have h2 := ih h.2 (fun t hx => hn t (List.mem_cons_of_mem _ hx)) (fun t hx => ht t (List.mem_cons_of_mem _ hx))
    rw [List.flatMap_cons, List.length_append, List.length_cons, Nat.add_mul]
    omega
set_option maxRecDepth 100000 in
set_option maxHeartbeats 1000000 in
theorem pback_q {gls : List (Nat × List Value)} {eF : Value} (hg : PG gls eF) (s : List UInt8) (p : List St) (hf : KeysFine p) : EFq Tryz.prog Tb gls 5 [sP s, stD p] (.part (tP true)) := by
  refine efq_enter 60 Tryz.func5 rfl rfl rfl fun w D hq => ?_
  try refine e_fl ?_
  refine e_plain (w_as rfl rfl rfl rfl rfl .nil) ?_
  try refine e_fl ?_
  refine e_plain (w_op rfl rfl rfl (s_callw rfl (by kernel_rfl) (efq_w tb_stab hq (palive_q hg) (fun _ h => h) (fun _ h => h)) trivial) (w_op rfl rfl rfl (s_not rfl (kn rfl)) .nil)) ?_
  try refine e_fl ?_
  refine e_cond rfl (fun h => ?_) (fun h => ?_)
  · cases h
  try refine e_fl ?_
  refine e_plain (w_mv rfl rfl rfl rfl rfl (w_op rfl rfl rfl (s_slen rfl (kn rfl) str_9) (w_op rfl rfl rfl (s_bin rfl (kn rfl) (kn rfl) v_gtr) (w_mv rfl rfl rfl rfl rfl (Walk.gd _ rfl rfl rfl (fun h => s_move rfl (kn rfl)) (Walk.gd _ rfl rfl rfl (fun h => s_call rfl (by kernel_rfl) ((plong_ef p hf).up) ⟨(kn_opt rfl h), trivial⟩) (w_op rfl rfl rfl (s_or rfl (kn rfl) (fun hb => kn_opt rfl hb)) .nil))))))) ?_
  try refine e_fl ?_
  refine e_cond rfl (fun h1 => ?_) (fun h1 => ?_)
  · try refine e_fl ?_
    refine e_plain (w_as rfl rfl rfl rfl rfl .nil) ?_
    try refine e_fl ?_
    exact e_return rfl rfl (.tmp (kn rfl) (.nil)) (tP_eq rfl) rfl
  have h600 : s.length ≤ 600 := by
    simp only [Bool.or_eq_false_iff, decide_eq_false_iff_not] at h1
    omega
  have hlg : plong p = false := by
    simp only [Bool.or_eq_false_iff] at h1
    exact h1.2
  have hpo := plong_ok hf hlg
  clear h1
  try refine e_fl ?_
  refine e_plain (w_mv rfl rfl rfl rfl rfl (w_op rfl rfl rfl (s_call rfl (by kernel_rfl) ((pright_ef p (by have := hpo.1; omega) hpo.2.2).up) ⟨(kn rfl), trivial⟩) .nil)) ?_
  try refine e_fl ?_
  refine e_cond rfl (fun h2 => ?_) (fun h2 => ?_)
  · have ht : ptext p = p.flatMap stT := if_pos h2
    have hb : psteps (ptext p) = p := by rw [ht]; exact psteps_text h2 hpo.2.1
    have htl : (ptext p).length ≤ 100000 := by
      have h4 := (plong_no hlg).1
      have h6 := short_texts h2 hpo.2.1 (fun s hs => ((vbig_no (by decide) ((plong_no hlg).2 s hs)).2).texts.1)
      rw [ht]
      omega
    have hback : EFq Tryz.prog Tb gls 22 [sP (ptext p)] (.tup [stD p, .one (.cell .nilIface)]) := by
      have h := parse_q hg (ptext p) htl
      rwa [PY, hb, if_pos rfl] at h
    try refine e_fl ?_
    refine e_plain (w_mv rfl rfl rfl rfl rfl (w_op rfl rfl rfl (s_callw rfl (by kernel_rfl) (efq_w tb_stab hq (ptext_q _ p hpo) (fun _ h => h) (fun _ h => h)) ⟨(kn rfl), trivial⟩) (w_op rfl rfl rfl (s_callw rfl (by kernel_rfl) (efq_w tb_stab hq (hback) (fun _ h => h) (fun _ h => h)) ⟨(kn rfl), trivial⟩) (w_mv rfl rfl rfl rfl rfl (w_op rfl rfl rfl (s_extract rfl (kn rfl) rfl) (w_op rfl rfl rfl (s_extract rfl (kn rfl) rfl) (w_as rfl rfl rfl rfl rfl (w_as rfl rfl rfl rfl rfl .nil)))))))) ?_
    try refine e_fl ?_
    refine e_plain (w_mv rfl rfl rfl rfl rfl (w_op rfl rfl rfl (s_nil_neq rfl (kn rfl) ifc_56) (w_mv rfl rfl rfl rfl rfl (Walk.gd _ rfl rfl rfl (fun h => s_move rfl (kn rfl)) (Walk.gd _ rfl rfl rfl (fun h => s_move rfl (kn rfl)) (Walk.gd _ rfl rfl rfl (fun h => s_call rfl (by kernel_rfl) ((psame_ef p p (by have := hpo.1; omega) (by have := hpo.1; omega) hpo.2.2 hpo.2.2).up) ⟨(kn_opt rfl h), ⟨(kn_opt rfl h), trivial⟩⟩) (Walk.gd _ rfl rfl rfl (fun h => s_not rfl (kn_opt rfl h)) (w_op rfl rfl rfl (s_or rfl (kn rfl) (fun hb => kn_opt rfl hb)) .nil)))))))) ?_
    try refine e_fl ?_
    refine e_cond rfl (fun h5 => ?_) (fun h5 => ?_)
    · rw [psame_self] at h5
      cases h5
    by_cases hy : ptext (psteps s) = s
    · have hP : EFq Tryz.prog Tb gls 22 [sP s] (.tup [stD (psteps s), .one (.cell .nilIface)]) := by
        have h := parse_q hg s (by omega)
        rwa [PY, if_pos hy] at h
      have hok := psteps_ok (s := s) (by omega)
      have hr := psteps_right hy
      try refine e_fl ?_
      refine e_plain (w_mv rfl rfl rfl rfl rfl (w_op rfl rfl rfl (s_callw rfl (by kernel_rfl) (efq_w tb_stab hq (hP) (fun _ h => h) (fun _ h => h)) ⟨(kn rfl), trivial⟩) (w_mv rfl rfl rfl rfl rfl (w_op rfl rfl rfl (s_extract rfl (kn rfl) rfl) (w_op rfl rfl rfl (s_extract rfl (kn rfl) rfl) (w_as rfl rfl rfl rfl rfl (w_as rfl rfl rfl rfl rfl .nil))))))) ?_
      try refine e_fl ?_
      refine e_plain (w_mv rfl rfl rfl rfl rfl (w_op rfl rfl rfl (s_nil_neq rfl (kn rfl) ifc_56) (w_mv rfl rfl rfl rfl rfl (Walk.gd _ rfl rfl rfl (fun h => s_move rfl (kn rfl)) (Walk.gd _ rfl rfl rfl (fun h => s_len rfl (kn_opt rfl h) sle_29) (Walk.gd _ rfl rfl rfl (fun h => s_bin rfl (kn_opt rfl h) (kn rfl) v_eql) (w_op rfl rfl rfl (s_and rfl (kn rfl) (fun hb => kn_opt rfl hb)) (w_mv rfl rfl rfl rfl rfl (Walk.gd _ rfl rfl rfl (fun h => s_move rfl (kn rfl)) (Walk.gd _ rfl rfl rfl (fun h => s_nil_eql rfl (kn_opt rfl h) ifc_56) (Walk.gd _ rfl rfl rfl (fun h => s_move rfl (kn_opt rfl h)) (Walk.gd _ rfl rfl rfl (fun h => s_move rfl (kn rfl)) (Walk.gd _ rfl rfl rfl (fun h => s_call rfl (by kernel_rfl) ((pright_ef (psteps s) (by have := hok.1; omega) hok.2.2).up) ⟨(kn_opt rfl h), trivial⟩) (Walk.gd _ rfl rfl rfl (fun h => s_and rfl (kn_opt rfl h) (fun hb => kn_opt rfl (gb h hb))) (Walk.gd _ rfl rfl rfl (fun h => s_move rfl (kn_opt rfl h)) (Walk.gd _ rfl rfl rfl (fun h => s_move rfl (kn rfl)) (Walk.gd _ rfl rfl rfl (fun h => s_callw rfl (by kernel_rfl) (efq_w tb_stab hq (ptext_q _ (psteps s) hok) (fun _ h => h) (fun _ h => h)) ⟨(kn_opt rfl h), trivial⟩) (Walk.gd _ rfl rfl rfl (fun h => s_move rfl (kn rfl)) (Walk.gd _ rfl rfl rfl (fun h => s_bin rfl (kn_opt rfl h) (kn_opt rfl h) (v_seql)) (Walk.gd _ rfl rfl rfl (fun h => s_and rfl (kn_opt rfl h) (fun hb => kn_opt rfl (gb h hb))) (w_op rfl rfl rfl (s_or rfl (kn rfl) (fun hb => kn_opt rfl hb)) (w_as rfl rfl rfl rfl rfl .nil)))))))))))))))))))))) ?_
      try refine e_fl ?_
      exact e_return rfl rfl (.tmp (kn rfl) (.nil)) (tP_eq (by rw [hr, hy]; simp)) rfl
    · have hP : EFq Tryz.prog Tb gls 22 [sP s] (.tup [stD [], .one (.cell eF)]) := by
        have h := parse_q hg s (by omega)
        rwa [PY, if_neg hy] at h
      have hok : PathOk [] := ⟨by decide, fun s hs => (by cases hs), fun s hs => (by cases hs)⟩
      obtain ⟨ft, fp, rfl⟩ := hg.ifc
      try refine e_fl ?_
      refine e_plain (w_mv rfl rfl rfl rfl rfl (w_op rfl rfl rfl (s_callw rfl (by kernel_rfl) (efq_w tb_stab hq (hP) (fun _ h => h) (fun _ h => h)) ⟨(kn rfl), trivial⟩) (w_mv rfl rfl rfl rfl rfl (w_op rfl rfl rfl (s_extract rfl (kn rfl) rfl) (w_op rfl rfl rfl (s_extract rfl (kn rfl) rfl) (w_as rfl rfl rfl rfl rfl (w_as rfl rfl rfl rfl rfl .nil))))))) ?_
      try refine e_fl ?_
      refine e_plain (w_mv rfl rfl rfl rfl rfl (w_op rfl rfl rfl (s_err_neq rfl (kn rfl) rfl ifc_56) (w_mv rfl rfl rfl rfl rfl (Walk.gd _ rfl rfl rfl (fun h => s_move rfl (kn rfl)) (Walk.gd _ rfl rfl rfl (fun h => s_len rfl (kn_opt rfl h) sle_29) (Walk.gd _ rfl rfl rfl (fun h => s_bin rfl (kn_opt rfl h) (kn rfl) v_eql) (w_op rfl rfl rfl (s_and rfl (kn rfl) (fun hb => kn_opt rfl hb)) (w_mv rfl rfl rfl rfl rfl (Walk.gd _ rfl rfl rfl (fun h => s_move rfl (kn rfl)) (Walk.gd _ rfl rfl rfl (fun h => s_err_eql rfl (kn_opt rfl h) rfl ifc_56) (Walk.gd _ rfl rfl rfl (fun h => s_move rfl (kn_opt rfl h)) (Walk.gd _ rfl rfl rfl (fun h => s_move rfl (kn rfl)) (Walk.gd _ rfl rfl rfl (fun h => s_call rfl (by kernel_rfl) ((pright_ef [] (by decide) hok.2.2).up) ⟨(kn_opt rfl h), trivial⟩) (Walk.gd _ rfl rfl rfl (fun h => s_and rfl (kn_opt rfl h) (fun hb => kn_opt rfl (gb h hb))) (Walk.gd _ rfl rfl rfl (fun h => s_move rfl (kn_opt rfl h)) (Walk.gd _ rfl rfl rfl (fun h => s_move rfl (kn rfl)) (Walk.gd _ rfl rfl rfl (fun h => s_callw rfl (by kernel_rfl) (efq_w tb_stab hq (ptext_q _ [] hok) (fun _ h => h) (fun _ h => h)) ⟨(kn_opt rfl h), trivial⟩) (Walk.gd _ rfl rfl rfl (fun h => s_move rfl (kn rfl)) (Walk.gd _ rfl rfl rfl (fun h => s_bin rfl (kn_opt rfl h) (kn_opt rfl h) (v_seql)) (Walk.gd _ rfl rfl rfl (fun h => s_and rfl (kn_opt rfl h) (fun hb => kn_opt rfl (gb h hb))) (w_op rfl rfl rfl (s_or rfl (kn rfl) (fun hb => kn_opt rfl hb)) (w_as rfl rfl rfl rfl rfl .nil)))))))))))))))))))))) ?_
      try refine e_fl ?_
      exact e_return rfl rfl (.tmp (kn rfl) (.nil)) (tP_eq (by simp)) rfl
  by_cases hy : ptext (psteps s) = s
  · have hP : EFq Tryz.prog Tb gls 22 [sP s] (.tup [stD (psteps s), .one (.cell .nilIface)]) := by
      have h := parse_q hg s (by omega)
      rwa [PY, if_pos hy] at h
    have hok := psteps_ok (s := s) (by omega)
    have hr := psteps_right hy
    try refine e_fl ?_
    refine e_plain (w_mv rfl rfl rfl rfl rfl (w_op rfl rfl rfl (s_callw rfl (by kernel_rfl) (efq_w tb_stab hq (hP) (fun _ h => h) (fun _ h => h)) ⟨(kn rfl), trivial⟩) (w_mv rfl rfl rfl rfl rfl (w_op rfl rfl rfl (s_extract rfl (kn rfl) rfl) (w_op rfl rfl rfl (s_extract rfl (kn rfl) rfl) (w_as rfl rfl rfl rfl rfl (w_as rfl rfl rfl rfl rfl .nil))))))) ?_
    try refine e_fl ?_
    refine e_plain (w_mv rfl rfl rfl rfl rfl (w_op rfl rfl rfl (s_nil_neq rfl (kn rfl) ifc_56) (w_mv rfl rfl rfl rfl rfl (Walk.gd _ rfl rfl rfl (fun h => s_move rfl (kn rfl)) (Walk.gd _ rfl rfl rfl (fun h => s_len rfl (kn_opt rfl h) sle_29) (Walk.gd _ rfl rfl rfl (fun h => s_bin rfl (kn_opt rfl h) (kn rfl) v_eql) (w_op rfl rfl rfl (s_and rfl (kn rfl) (fun hb => kn_opt rfl hb)) (w_mv rfl rfl rfl rfl rfl (Walk.gd _ rfl rfl rfl (fun h => s_move rfl (kn rfl)) (Walk.gd _ rfl rfl rfl (fun h => s_nil_eql rfl (kn_opt rfl h) ifc_56) (Walk.gd _ rfl rfl rfl (fun h => s_move rfl (kn_opt rfl h)) (Walk.gd _ rfl rfl rfl (fun h => s_move rfl (kn rfl)) (Walk.gd _ rfl rfl rfl (fun h => s_call rfl (by kernel_rfl) ((pright_ef (psteps s) (by have := hok.1; omega) hok.2.2).up) ⟨(kn_opt rfl h), trivial⟩) (Walk.gd _ rfl rfl rfl (fun h => s_and rfl (kn_opt rfl h) (fun hb => kn_opt rfl (gb h hb))) (Walk.gd _ rfl rfl rfl (fun h => s_move rfl (kn_opt rfl h)) (Walk.gd _ rfl rfl rfl (fun h => s_move rfl (kn rfl)) (Walk.gd _ rfl rfl rfl (fun h => s_callw rfl (by kernel_rfl) (efq_w tb_stab hq (ptext_q _ (psteps s) hok) (fun _ h => h) (fun _ h => h)) ⟨(kn_opt rfl h), trivial⟩) (Walk.gd _ rfl rfl rfl (fun h => s_move rfl (kn rfl)) (Walk.gd _ rfl rfl rfl (fun h => s_bin rfl (kn_opt rfl h) (kn_opt rfl h) (v_seql)) (Walk.gd _ rfl rfl rfl (fun h => s_and rfl (kn_opt rfl h) (fun hb => kn_opt rfl (gb h hb))) (w_op rfl rfl rfl (s_or rfl (kn rfl) (fun hb => kn_opt rfl hb)) (w_as rfl rfl rfl rfl rfl .nil)))))))))))))))))))))) ?_
    try refine e_fl ?_
    exact e_return rfl rfl (.tmp (kn rfl) (.nil)) (tP_eq (by rw [hr, hy]; simp)) rfl
  · have hP : EFq Tryz.prog Tb gls 22 [sP s] (.tup [stD [], .one (.cell eF)]) := by
      have h := parse_q hg s (by omega)
      rwa [PY, if_neg hy] at h
    have hok : PathOk [] := ⟨by decide, fun s hs => (by cases hs), fun s hs => (by cases hs)⟩
    obtain ⟨ft, fp, rfl⟩ := hg.ifc
    try refine e_fl ?_
    refine e_plain (w_mv rfl rfl rfl rfl rfl (w_op rfl rfl rfl (s_callw rfl (by kernel_rfl) (efq_w tb_stab hq (hP) (fun _ h => h) (fun _ h => h)) ⟨(kn rfl), trivial⟩) (w_mv rfl rfl rfl rfl rfl (w_op rfl rfl rfl (s_extract rfl (kn rfl) rfl) (w_op rfl rfl rfl (s_extract rfl (kn rfl) rfl) (w_as rfl rfl rfl rfl rfl (w_as rfl rfl rfl rfl rfl .nil))))))) ?_
    try refine e_fl ?_
    refine e_plain (w_mv rfl rfl rfl rfl rfl (w_op rfl rfl rfl (s_err_neq rfl (kn rfl) rfl ifc_56) (w_mv rfl rfl rfl rfl rfl (Walk.gd _ rfl rfl rfl (fun h => s_move rfl (kn rfl)) (Walk.gd _ rfl rfl rfl (fun h => s_len rfl (kn_opt rfl h) sle_29) (Walk.gd _ rfl rfl rfl (fun h => s_bin rfl (kn_opt rfl h) (kn rfl) v_eql) (w_op rfl rfl rfl (s_and rfl (kn rfl) (fun hb => kn_opt rfl hb)) (w_mv rfl rfl rfl rfl rfl (Walk.gd _ rfl rfl rfl (fun h => s_move rfl (kn rfl)) (Walk.gd _ rfl rfl rfl (fun h => s_err_eql rfl (kn_opt rfl h) rfl ifc_56) (Walk.gd _ rfl rfl rfl (fun h => s_move rfl (kn_opt rfl h)) (Walk.gd _ rfl rfl rfl (fun h => s_move rfl (kn rfl)) (Walk.gd _ rfl rfl rfl (fun h => s_call rfl (by kernel_rfl) ((pright_ef [] (by decide) hok.2.2).up) ⟨(kn_opt rfl h), trivial⟩) (Walk.gd _ rfl rfl rfl (fun h => s_and rfl (kn_opt rfl h) (fun hb => kn_opt rfl (gb h hb))) (Walk.gd _ rfl rfl rfl (fun h => s_move rfl (kn_opt rfl h)) (Walk.gd _ rfl rfl rfl (fun h => s_move rfl (kn rfl)) (Walk.gd _ rfl rfl rfl (fun h => s_callw rfl (by kernel_rfl) (efq_w tb_stab hq (ptext_q _ [] hok) (fun _ h => h) (fun _ h => h)) ⟨(kn_opt rfl h), trivial⟩) (Walk.gd _ rfl rfl rfl (fun h => s_move rfl (kn rfl)) (Walk.gd _ rfl rfl rfl (fun h => s_bin rfl (kn_opt rfl h) (kn_opt rfl h) (v_seql)) (Walk.gd _ rfl rfl rfl (fun h => s_and rfl (kn_opt rfl h) (fun hb => kn_opt rfl (gb h hb))) (w_op rfl rfl rfl (s_or rfl (kn rfl) (fun hb => kn_opt rfl hb)) (w_as rfl rfl rfl rfl rfl .nil)))))))))))))))))))))) ?_
    try refine e_fl ?_
    exact e_return rfl rfl (.tmp (kn rfl) (.nil)) (tP_eq (by simp)) rfl
end Go.Proofs.YtagoikglbifhmaaGreatDoor
namespace Go.Proofs.YtagoikglbifhmaaGreatDoor
open Go.RowKit Go.ChangeShapes
theorem star : "*" ++ "errors.errorString" = "*errors.errorString" := by decide
theorem rowE (u : TypeId) (h : Tryz.prog.typeName? 3 u = some "*errors.errorString") : u = 193 :=
  typeName_ptr_named (nm := "errors.errorString") (by rw [star]; kernel_rfl) (by kernel_rfl) (by decide) u (by rw [star]; exact h)
theorem cellsES : Tryz.prog.cellsOf 195 = 1 := by kernel_rfl
theorem cellsSt1 : Tryz.prog.cellsOf 9 = 1 := by kernel_rfl
set_option maxRecDepth 100000 in
theorem err_head {W : World} {n : String} {g : Nat} {text : List UInt8} {r : List (String × DataW Unit)} (h : laidMet Tryz.prog ((n, .iface "*errors.errorString" (.ptr (.agg [.lit (.string text)]))) :: r) W) (hg : Tryz.prog.globalNamed n = some g) (ht : (Tryz.prog.globals[g]?).map (·.type) = some 56) : ∃ a, W.cell? ⟨g, 0, none⟩ = some (.iface 193 (.pointer (some a))) := by
  obtain ⟨ps, ⟨g1, t, ⟨cl⟩, f, p, q, hg1, ht1, hv, hd, _, he⟩, _, hrows⟩ := h
  cases Option.some.inj (hg.symm.trans hg1)
  cases Option.some.inj (ht.symm.trans ht1)
  have hok : ∀ u v, cl = [.iface u v] → Value.okWide Tryz.prog W .any 0 u v := fun u v hc => by
    subst hc
    exact (hrows g 0 (by rw [he]; simp [MemPlace.row])).2 u v (by simpa using World.var?_cell hg1 hv 0)
  obtain ⟨a, s, rfl, hca, hs, _, rfl⟩ := errorString_of_trod Tryz.underlying56 rowE Tryz.underlying193 Tryz.underlying195 rfl rfl Tryz.underlying9 cellsES cellsSt1 hd hok
  exact ⟨a, by simpa using World.var?_cell hg1 hv 0⟩
def gE (f s r : Value) : List (Nat × List Value) := [(0, [f]), (2, [s]), (3, [r])]
theorem gE_ok {W : World} {f s r : Value} (hf : W.cell? ⟨0, 0, none⟩ = some f) (hs : W.cell? ⟨2, 0, none⟩ = some s) (hr : W.cell? ⟨3, 0, none⟩ = some r) : GlOK (gE f s r) W := fun g cs hg => by
  simp only [gE, List.mem_cons, List.not_mem_nil, or_false, Prod.mk.injEq] at hg
  have key : ∀ (g : Nat) (v : Value), W.cell? ⟨g, 0, none⟩ = some v → g < W.heap.size ∧ ∀ (j : Nat) u, ([v] : List Value)[j]? = some u → W.cell? ⟨g, j, none⟩ = some u := fun g v h => ⟨World.block_lt_of_cell? _ _ h, fun j u hu => by
    match j, hu with
    | 0, hu =>
      obtain rfl := Option.some.inj hu
      exact h⟩
  rcases hg with ⟨rfl, rfl⟩ | ⟨rfl, rfl⟩ | ⟨rfl, rfl⟩
  · exact key _ _ hf
  · exact key _ _ hs
  · exact key _ _ hr
structure PW (W : World) (gls : List (Nat × List Value)) (eF : Value) : Prop where
  gl : GlOK gls W
  pg : PG gls eF
  tb : Tb W
theorem pow_data : Rows.laid_internal_strconv_uint64pow10 = Lib.tabData (H := Unit) .u64 Lib.pow10Tab := by kernel_rfl
theorem pth_laid {W : World} (h : laidMetH Tryz.prog Rows.pathBackRow.laid W) : ∃ gls eF, PW W gls eF := by
  rw [MakeChecks.laidMetH_plain _ _ _ (by kernel_rfl)] at h
  have h2 := h.tail.tail
  have h4 := h2.tail.tail
  obtain ⟨a, ha⟩ := err_head h4 (g := 0) (by kernel_rfl) (by kernel_rfl)
  obtain ⟨b, hb⟩ := err_head h4.tail (g := 3) (by kernel_rfl) (by kernel_rfl)
  obtain ⟨c, hc⟩ := err_head h4.tail.tail (g := 2) (by kernel_rfl) (by kernel_rfl)
  refine ⟨gE _ _ _, _, gE_ok ha hc hb, ⟨⟨⟨_, _, List.mem_cons_of_mem _ List.mem_cons_self⟩, ⟨_, _, List.mem_cons_of_mem _ (List.mem_cons_of_mem _ List.mem_cons_self)⟩⟩, List.mem_cons_self, ⟨_, _, rfl⟩⟩, ?_⟩
  rw [pow_data] at h2
  exact Lib.tabIs_of_head (g := 4) (t := 184) (e := 22) (n := 20) (by kernel_rfl) (by kernel_rfl) (by kernel_rfl) (by kernel_rfl) (by kernel_rfl) (by kernel_rfl) h2
theorem q_calls {gls : List (Nat × List Value)} {eF : Value} {W : World} {f : FuncId} {ps : List Part} {b : Bool} (hW : PW W gls eF) (h : EFq Tryz.prog Tb gls f ps (.part (tP b))) (D : Nat → Prop) (hD : ∀ g, D g → g < W.heap.size) {vs : List Value} (hp : PsFit W D ps vs) : Calls Tryz.prog f vs.toArray W fun e W' => e = .returned (.bool b) ∧ Below W.heap.size W W' :=
  (h W D vs hD hW.gl hW.tb hp).mono fun e W' ⟨v, y, h1, h2, h3, h4⟩ => by
    subst h2
    have := h4 (fun _ => 0) (fun _ => undef)
    obtain rfl := Lies.cell_eq this
    exact ⟨h1, h3⟩
end Go.Proofs.YtagoikglbifhmaaGreatDoor
namespace Go.Proofs.YtagoikglbifhmaaGreatDoor
open Go.ChangeShapes Go.WideShapes Go.ChangeAt Go.RowKit
section
variable {H : Type} {enc : TypeId × Value → H} {P : Program}
theorem u64_open {x : Int} (h : (Lit.int .u64 x).wf = true) : ∃ n : Nat, x = (n : Int) ∧ n < 18446744073709551616 := by
  have h1 : IntKind.u64.min = 0 := rfl
  have h2 : IntKind.u64.max = 18446744073709551615 := rfl
  simp only [Lit.wf, Bool.and_eq_true, decide_eq_true_eq] at h
  exact ⟨x.toNat, by omega, by omega⟩
theorem i64_bd {x : Int} (h : (Lit.int .i64 x).wf = true) : -9223372036854775808 ≤ x ∧ x < 9223372036854775808 := by
  have h1 : IntKind.i64.min = -9223372036854775808 := rfl
  have h2 : IntKind.i64.max = 9223372036854775807 := rfl
  simp only [Lit.wf, Bool.and_eq_true, decide_eq_true_eq] at h
  omega
theorem trodAll_stay (hl : laidOutB P = true) {W W' : World} (hb : Below W.heap.size W W') {sp : Nat → Bool} : ∀ {ts : List TypeId} {vs : List Value} {ds : List (DataW H)} {ps : List MemPlace},
    (ts.all fun t => P.readableRec t && decide (t < P.types.size)) = true → DataW.TrodAll enc P W 0 (fun _ => true) true ts vs ds ps → (∀ p ∈ ps, p.block < W.heap.size) → (∀ p ∈ ps, sp p.block = true) →
    DataW.TrodAll enc P W' 0 sp true ts vs ds ps
  | [], _, _, _, _, h, _, _ => by
    obtain ⟨rfl, rfl, rfl⟩ := trodAll_nil h
    exact trodAll_mk0
  | t :: ts, _, _, _, ht, h, hlt, hsp => by
    simp only [List.all_cons, Bool.and_eq_true, decide_eq_true_eq] at ht
    obtain ⟨v, vs, d, ds, p, q, rfl, rfl, rfl, h0, hr⟩ := trodAll_cons h
    exact trodAll_cons_mk (WideElems.Trod_stays hl ht.1.1 ht.1.2 h0 (fun x hx => hb.same (hlt x (List.mem_append_left _ hx))) (fun x hx => hsp x (List.mem_append_left _ hx)))
      (trodAll_stay hl hb ht.2 hr (fun x hx => hlt x (List.mem_append_right _ hx)) (fun x hx => hsp x (List.mem_append_right _ hx)))
theorem law_post {f : Func} {s : ChangeSpec} {W W' : World} {args : Array Value} {ds : List (DataW H)} {before : List MemPlace}
    (hl : laidOutB P = true) (ht : (f.params.toList.all fun t => P.readableRec t && decide (t < P.types.size)) = true)
    (hvars : s.vars = []) (hs : s.fn H (ds ++ []) = { results := [.lit (.bool true)], args := ds }) {tb : TypeId} (hres : f.resultTypes = #[tb]) (hbool : P.underlying tb = some .bool)
    (hW : DataW.Whole enc P f.params.toList s.vars false W args.toList ds [] before)
    (hA : DataW.TrodAll enc P W 0 (fun _ => true) true f.params.toList args.toList ds before) (hb : Below W.heap.size W W') :
    s.post enc P f false true false false W args (.bool true) W' := by
  have hlt : ∀ p ∈ before, p.block < W.heap.size := fun p hp => hW.lt p hp
  have e1 : (Value.bool true).resultList f.resultTypes.size = [Value.bool true] := by rw [hres]; rfl
  refine ⟨ds, [], before, [], before, [], hW, ?_, ?_, ?_, World.keptBut_mono (fun p hp => ⟨hp, by simpa using hp⟩) (hb.frame (· ∈ before)), fun h => by cases h⟩
  · rw [hs, e1, hres]
    exact trodAll_mk1 (shut_bool hbool _)
  · rw [hs]
    exact trodAll_stay hl hb ht hA hlt (fun p hp => by simpa using hlt p hp)
  · rw [hs, hvars]
    rfl
end
end Go.Proofs.YtagoikglbifhmaaGreatDoor
namespace Go.Proofs.YtagoikglbifhmaaGreatDoor
open Go.ChangeShapes Go.WideShapes Go.ChangeAt Go.RowKit
theorem str_bytes (s : ByteArray) : str s.data.toList = s := by
  unfold str
  simp
section
variable {H : Type} {enc : TypeId × Value → H} {w : World} {base : Nat} {spare : Nat → Bool} {held : Bool}
theorem cellsVal : Tryz.prog.cellsOf 27 = 7 := by kernel_rfl
theorem cellsFld : Tryz.prog.cellsOf 66 = 8 := by kernel_rfl
theorem cellsPar : Tryz.prog.cellsOf 82 = 14 := by kernel_rfl
theorem cellsInt : Tryz.prog.cellsOf 3 = 1 := by kernel_rfl
theorem cellsU64v : Tryz.prog.cellsOf 22 = 1 := by kernel_rfl
theorem cellsStr : Tryz.prog.cellsOf 9 = 1 := by kernel_rfl
theorem cellsFs : Tryz.prog.cellsOf 23 = 1 := by kernel_rfl
theorem cellsVs : Tryz.prog.cellsOf 24 = 1 := by kernel_rfl
theorem cellsPs : Tryz.prog.cellsOf 25 = 1 := by kernel_rfl
set_option maxRecDepth 100000 in
set_option maxHeartbeats 1000000 in
theorem trod_val : ∀ (fuel : Nat) (cs : List Value) (x : DataW H × List MemPlace), DataW.trod enc Tryz.prog w base spare held fuel 27 cs = some x → ∃ v : Vl, Fits w (Old w) v.dats cs ∧ v.Fine := by
  intro fuel
  induction fuel using Nat.strongRecOn with
  | ind fuel ih =>
    intro cs x h
    obtain ⟨xs, m, rfl, _, hcl, hxl, hf⟩ := DataW.trod_struct Tryz.underlying27 h
    rw [cellsVal] at hcl
    match cs, hcl, xs, hxl with
    | [c0, c1, c2, c3, c4, c5, c6], _, [y0, y1, y2, y3, y4, y5, y6], _ =>
      have h0 : DataW.trod enc Tryz.prog w base spare held m 3 [c0] = some y0 := by simpa [cellsInt] using hf 0 _ rfl
      have h1 : DataW.trod enc Tryz.prog w base spare held m 22 [c1] = some y1 := by simpa [cellsU64v] using hf 1 _ rfl
      have h2 : DataW.trod enc Tryz.prog w base spare held m 9 [c2] = some y2 := by simpa [cellsStr] using hf 2 _ rfl
      have h3 : DataW.trod enc Tryz.prog w base spare held m 23 [c3] = some y3 := by simpa [cellsFs] using hf 3 _ rfl
      have h4 : DataW.trod enc Tryz.prog w base spare held m 9 [c4] = some y4 := by simpa [cellsStr] using hf 4 _ rfl
      have h5 : DataW.trod enc Tryz.prog w base spare held m 24 [c5] = some y5 := by simpa [cellsVs] using hf 5 _ rfl
      have h6 : DataW.trod enc Tryz.prog w base spare held m 25 [c6] = some y6 := by simpa [cellsPs] using hf 6 _ rfl
      obtain ⟨k, e0, _, wk⟩ := DataW.trod_int Tryz.underlying3 h0
      obtain ⟨z, e1, _, wz⟩ := DataW.trod_int Tryz.underlying22 h1
      obtain ⟨s, e2, _, ws⟩ := DataW.trod_string Tryz.underlying9 h2
      obtain ⟨t, e4, _, wt⟩ := DataW.trod_string Tryz.underlying9 h4
      obtain ⟨n, rfl, hn⟩ := u64_open wz
      obtain ⟨lo, hi⟩ := i64_bd wk
      obtain ⟨pf, fs, cf, e3, lf, ff, mf, mf'⟩ := open_row (f := fieldDats) (F := fun f : Int × Vl => (-9223372036854775808 ≤ f.1 ∧ f.1 < 9223372036854775808) ∧ f.2.Fine) Tryz.underlying23 (by omega) cellsFld fieldDats_len (fun n hn cs x hx => by
        obtain ⟨zs, q, rfl, _, hzl, hql, hg⟩ := DataW.trod_struct Tryz.underlying66 hx
        rw [cellsFld] at hzl
        match cs, hzl, zs, hql with
        | d0 :: ds, hds, [u0, u1], _ =>
          have hds : ds.length = 7 := by simpa using hds
          have g0 : DataW.trod enc Tryz.prog w base spare held q 3 [d0] = some u0 := by simpa [cellsInt] using hg 0 _ rfl
          have g1 : DataW.trod enc Tryz.prog w base spare held q 27 ds = some u1 := by
            have := hg 1 _ rfl
            change DataW.trod _ _ _ _ _ _ _ 27 (ds.take (Tryz.prog.cellsOf 27)) = some u1 at this
            rw [cellsVal] at this
            rwa [List.take_of_length_le (by omega)] at this
          obtain ⟨b, e, _, wb⟩ := DataW.trod_int Tryz.underlying3 g0
          obtain ⟨v, hv, hV⟩ := ih q (by omega) ds u1 g1
          simp only [List.cons.injEq, and_true] at e
          subst e
          exact ⟨(b, v), .cons (.cell _) hv, i64_bd wb, hV⟩) h3
      obtain ⟨pl, ls, cl, e5, ll, fl, ml, ml'⟩ := open_row (f := Vl.dats) (F := Vl.Fine) Tryz.underlying24 (by omega) cellsVal Vl.dats_len (fun n hn cs x hx => ih n (by omega) cs x hx) h5
      obtain ⟨pp, ps, cp, e6, lp, fp, mp, mp'⟩ := open_row (f := pairDats) (F := fun p : Vl × Vl => p.1.Fine ∧ p.2.Fine) Tryz.underlying25 (by omega) cellsPar pairDats_len (fun n hn cs x hx => by
        obtain ⟨zs, q, rfl, _, hzl, hql, hg⟩ := DataW.trod_struct Tryz.underlying82 hx
        rw [cellsPar] at hzl
        match zs, hql with
        | [u0, u1], _ =>
          have g0 := hg 0 _ rfl
          have g1 := hg 1 _ rfl
          change DataW.trod _ _ _ _ _ _ _ 27 (cs.take (Tryz.prog.cellsOf 27)) = some u0 at g0
          change DataW.trod _ _ _ _ _ _ _ 27 ((cs.drop 7).take (Tryz.prog.cellsOf 27)) = some u1 at g1
          rw [cellsVal] at g0 g1
          obtain ⟨a, ha, hA⟩ := ih q (by omega) _ u0 g0
          obtain ⟨b, hb, hB⟩ := ih q (by omega) _ u1 g1
          refine ⟨(a, b), ?_, hA, hB⟩
          have := ha.append hb
          rw [List.take_of_length_le (l := cs.drop 7) (by rw [List.length_drop]; omega), List.take_append_drop] at this
          exact this) h6
      simp only [List.cons.injEq, and_true] at e0 e1 e2 e3 e4 e5 e6
      subst e0 e1 e2 e3 e4 e5 e6
      refine ⟨.mk k n s.data.toList fs t.data.toList ls ps, ?_, .mk _ lo hi hn (by show s.data.toList.length ≤ maxLen; simpa using ws) (by show t.data.toList.length ≤ maxLen; simpa using wt) (by show fs.length ≤ _; omega) (by show ls.length ≤ _; omega) (by show ps.length ≤ _; omega) (fun f hf => (ff f hf).1) (fun f hf => (ff f hf).2) fl (fun p hp => (fp p hp).1) (fun p hp => (fp p hp).2)⟩
      have := Vl.shut (v := .mk k n s.data.toList fs t.data.toList ls ps) lf ll lp
      unfold vcells at this
      rw [Vl.text_mk, Vl.rest_mk, str_bytes, str_bytes] at this
      exact this
end
end Go.Proofs.YtagoikglbifhmaaGreatDoor
namespace Go.Proofs.YtagoikglbifhmaaGreatDoor
open Go.ChangeShapes Go.WideShapes Go.ChangeAt Go.RowKit
section
variable {H : Type} {enc : TypeId × Value → H} {w : World} {base : Nat} {spare : Nat → Bool} {held : Bool}
theorem cellsStp : Tryz.prog.cellsOf 62 = 10 := by kernel_rfl
set_option maxRecDepth 100000 in
theorem open_path {r : Reach} {b0 : Nat} {v : Value} {d : DataW H} {ps : List MemPlace} (hval : Value.okWide Tryz.prog w r b0 29 v) (h : DataW.Trod enc Tryz.prog w base spare held 29 v d ps) :
    ∃ (p : Option Addr) (l : List St) (c : Nat), v = .slice p l.length c ∧ Lies w (Old w) (.row 10 l.length (l.flatMap stDats)) (.slice p l.length c) ∧ KeysFine l ∧ l.length ≤ maxLen := by
  obtain ⟨a0, len, cap, rfl⟩ := okWide_slice Tryz.underlying29 hval
  obtain ⟨fuel, hf⟩ := h
  obtain ⟨p, qs, c, e, hl, hF, h1, h2⟩ := open_row (f := stDats) (F := fun s : St => s.key.Fine) Tryz.underlying29 (by omega) cellsStp stDats_len (fun n hn cs x hx => by
    obtain ⟨zs, q, rfl, _, hzl, hql, hg⟩ := DataW.trod_struct Tryz.underlying62 hx
    rw [cellsStp] at hzl
    match cs, hzl, zs, hql with
    | d0 :: d1 :: d2 :: ds, hds, [u0, u1, u2, u3], _ =>
      have hds : ds.length = 7 := by simpa using hds
      have g0 : DataW.trod enc Tryz.prog w base spare held q 3 [d0] = some u0 := by simpa [cellsInt] using hg 0 _ rfl
      have g1 : DataW.trod enc Tryz.prog w base spare held q 3 [d1] = some u1 := by simpa [cellsInt] using hg 1 _ rfl
      have g2 : DataW.trod enc Tryz.prog w base spare held q 3 [d2] = some u2 := by simpa [cellsInt] using hg 2 _ rfl
      have g3 : DataW.trod enc Tryz.prog w base spare held q 27 ds = some u3 := by
        have := hg 3 _ rfl
        change DataW.trod _ _ _ _ _ _ _ 27 (ds.take (Tryz.prog.cellsOf 27)) = some u3 at this
        rw [cellsVal] at this
        rwa [List.take_of_length_le (by omega)] at this
      obtain ⟨a, e0, _, _⟩ := DataW.trod_int Tryz.underlying3 g0
      obtain ⟨b, e1, _, _⟩ := DataW.trod_int Tryz.underlying3 g1
      obtain ⟨c, e2, _, _⟩ := DataW.trod_int Tryz.underlying3 g2
      obtain ⟨v, hv, hV⟩ := trod_val q ds u3 g3
      simp only [List.cons.injEq, and_true] at e0 e1 e2
      subst e0 e1 e2
      exact ⟨⟨a, b, c, v⟩, .cons (.cell _) (.cons (.cell _) (.cons (.cell _) hv)), hV⟩) hf
  simp [Value.cells] at e
  obtain ⟨rfl, rfl, rfl⟩ := e
  exact ⟨_, qs, _, rfl, hl, hF, by omega⟩
end
end Go.Proofs.YtagoikglbifhmaaGreatDoor
