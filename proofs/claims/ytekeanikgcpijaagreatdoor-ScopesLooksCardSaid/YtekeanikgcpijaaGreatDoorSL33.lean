/- Part 33 of what the last text of this claim is proved by: walks over the program, and the math behind them. Conditions: as each theorem says. -/
import Derived.Test.YtekeanikgcpijaaGreatDoorSL32
import Derived.Test.YtekeanikgcpijaaGreatDoorProg
namespace Go.Proofs.YtekeanikgcpijaaGreatDoor
open Go.RowKit
def zTab : List Value := (List.replicate 40 [Value.string ⟨#[]⟩, .bool false, .int .i64 0, .int .i64 0, .int .i64 0]).flatten ++ [.int .i64 0, .map none, .map none]
theorem zTab_zero : zeroT Tryz.prog 71 = some zTab := by kernel_rfl
theorem zTab_set : ((zTab.map IV.is).set 201 (.own 1001)).set 202 (.own 1002) = tCs (tds []) 0 := by kernel_rfl
theorem zTab_one : zTab.all (·.oneCell') = true := by kernel_rfl
theorem zTab_len : zTab.length = 203 := by kernel_rfl
theorem tCs_fr1 {ts : List Dat} (h : ts.length = 200) (n : Nat) (d : Dat) : (tCs ts n).set 201 (.part (.one d)) = bcs ts ++ [.is (.int .i64 (n : Int)), .part (.one d), .own 1002] := by
  unfold tCs
  rw [List.set_append, if_neg (by rw [List.length_map, h]; omega), List.length_map, h]
  rfl
theorem tCs_fr2 {ts : List Dat} (h : ts.length = 200) (n : Nat) (d e : Dat) : (bcs ts ++ [IV.is (.int .i64 (n : Int)), .part (.one d), .own 1002]).set 202 (.part (.one e)) = bcs (ts ++ [.cell (.int .i64 (n : Int)), d, e]) := by
  rw [List.set_append, if_neg (by rw [List.length_map, h]; omega), List.length_map, h]
  unfold bcs
  rw [List.map_append]
  rfl
theorem fr2_get {ts : List Dat} (h : ts.length = 200) (n : Nat) (d : Dat) : (bcs ts ++ [IV.is (.int .i64 (n : Int)), .part (.one d), .own 1002])[202]? = some (.own 1002) := by
  rw [List.getElem?_append_right (by simp [h]), List.length_map, h]
  rfl
theorem manyOf_bcs : ∀ ds : List Dat, manyOf (bcs ds) = some ds
  | [] => rfl
  | d :: ds => by
    show (match manyOf (bcs ds) with | some es => some (d :: es) | none => none) = _
    rw [manyOf_bcs ds]
def ofR (ED EL : Er) (r : Except (Nat × Int × Int) (List Ty)) : IV := match r with | .ok L => .tup [tabP L, nilP] | .error (k, l, c) => .tup [.one (.cell (.pointer none)), .one (sfD l c (errT ED EL k))]
structure FOk (N : Nat) (f : Fil) : Prop where
  fine : f.fine
  pk : f.package.length ≤ 100000000000
  pk1 : f.package.head? ≠ some 46
  en : ∀ x ∈ f.enums, NmOk N x.name
  ms : ∀ k ∈ f.msgs, MOk N 8 k
set_option maxRecDepth 100000 in
set_option maxHeartbeats 4000000 in
theorem sof_ef (ED EL : Er) (N : Nat) (hN : N ≤ 1000000) (f : Fil) (hf : FOk N f) : EF Tryz.prog (gS ED EL) 7 [FQ f] (ofR ED EL (table f)) := by
  have tb0 : TbOk [] := ⟨List.nodup_nil, by simp⟩
  have hpk := hf.pk
  have hal : (aheadOf f.package).length + (8 + 1) * (N + 2) ≤ 1000000000000 := by
    unfold aheadOf
    split
    · simp; omega
    · simp; omega
  refine ef_enter 28 Tryz.func7 rfl rfl rfl fun w D => ?_
  try refine e_fl ?_
  refine e_list ?_
  refine e_box 1 rfl rfl rfl rfl (kn rfl) rfl rfl rfl rfl ?_
  refine l_as ?_
  refine l_as ?_
  refine e_nil ?_
  try refine e_fl ?_
  refine e_list ?_
  refine e_mmap 1001 1000000 1 rfl rfl rfl rfl rfl rfl ?_ rfl
  refine e_mmap 1002 1000001 1 rfl rfl rfl rfl rfl rfl ?_ rfl
  refine e_build_two 1000 rfl rfl rfl rfl pl_71 zTab_zero rfl rfl (by rw [zTab_len]; omega) (by rw [zTab_len]; omega) (kn rfl) (kn rfl) rfl rfl rfl rfl rfl rfl rfl rfl zTab_one rfl rfl rfl ?_
  rw [zTab_set]
  refine l_as ?_
  refine e_nil ?_
  try refine e_fl ?_
  refine e_plain (w_as rfl rfl rfl rfl rfl .nil) ?_
  try refine e_fl ?_
  refine e_plain (w_op rfl rfl rfl (s_faddr_box rfl (kn rfl) off_26_0) (w_op rfl rfl rfl (s_load1_box rfl (kn rfl) rfl rfl one_9) (w_op rfl rfl rfl (s_bin rfl (kn rfl) (kn rfl) (v_sneq (b := []))) .nil))) ?_
  try refine e_fl ?_
  by_cases hp : f.package = []
  · refine e_cond rfl (fun h => by rw [hp] at h; exact absurd h (by decide)) (fun _ => ?_)
    have ha : aheadOf f.package = [] := if_pos hp
    rw [ha] at hal
    have htab : table f = addAllT [] (tyAll [] f.enums f.msgs) := by unfold table tyFile; rw [ha]
    try refine e_fl ?_
    refine e_list ?_
    refine l_mv ?_
    refine l_mv ?_
    refine l_op (s_faddr_box rfl (kn rfl) off_26_2) ?_
    refine l_op (s_load1_box rfl (kn rfl) rfl rfl one_24) ?_
    refine l_op (s_faddr_box rfl (kn rfl) off_26_1) ?_
    refine l_op (s_load1_box rfl (kn rfl) rfl rfl one_23) ?_
    refine e_calli rfl rfl rfl rfl (by kernel_rfl) (addAll_g ED EL N hN 8 ([]) f.enums f.msgs [] tb0 hf.fine.2.1 hf.fine.1 hf.en (fun k hk => ⟨hf.ms k hk, hf.fine.2.2.2 k hk⟩) hal) ⟨rfl, trivial⟩ ⟨rfl, rfl, trivial⟩ ⟨(kn rfl), ⟨(kn rfl), ⟨(kn rfl), ⟨(kn rfl), trivial⟩⟩⟩⟩ (TbY.tidy) ?_
    rintro _ _ _ (⟨M, hr, rfl, rfl, rfl⟩ | ⟨k, li, co, M, hr, rfl, rfl, rfl⟩)
    · have hr' : table f = .ok M := htab.trans hr
      have hM := addAllT_ok tb0 hr
      have htl := tds_len hM.2
      rw [hr']
      refine l_as ?_
      refine e_nil ?_
      try refine e_fl ?_
      refine e_plain (w_mv rfl rfl rfl rfl rfl (w_op rfl rfl rfl (s_nil_neq rfl (kn rfl) ifc_28) .nil)) ?_
      try refine e_fl ?_
      refine c_no ?_
      try refine e_fl ?_
      refine e_plain (w_mv rfl rfl rfl rfl rfl (w_as rfl rfl rfl rfl rfl (w_as rfl rfl rfl rfl rfl .nil))) ?_
      try refine e_fl ?_
      refine e_freeze_mcell 1000 201 1001 rfl (tCs_get htl _ 1) rfl rfl (tCs_fr1 htl _ _) ?_ rfl
      refine e_freeze_mcell 1000 202 1002 rfl (fr2_get htl _ _) rfl rfl (tCs_fr2 htl _ _ _) ?_ rfl
      refine e_data 2 1000 rfl rfl (manyOf_bcs _) ?_
      exact e_return rfl rfl (.tmp (kn rfl) (.tmp (kn rfl) (.nil))) (Imp.refl _) rfl
    · have hr' : table f = .error (k, li, co) := htab.trans hr
      rw [hr']
      refine l_as ?_
      refine e_nil ?_
      try refine e_fl ?_
      refine e_plain (w_mv rfl rfl rfl rfl rfl (w_op rfl rfl rfl (s_err_neq rfl (kn rfl) rfl ifc_28) .nil)) ?_
      try refine e_fl ?_
      refine c_yes ?_
      try refine e_fl ?_
      refine e_plain (w_mv rfl rfl rfl rfl rfl (w_as rfl rfl rfl rfl rfl (w_as rfl rfl rfl rfl rfl .nil))) ?_
      try refine e_fl ?_
      exact e_return rfl rfl (.tmp (kn rfl) (.tmp (kn rfl) (.nil))) (Imp.refl _) rfl
  · refine e_cond rfl (fun _ => ?_) (fun h => absurd h (by simpa using hp))
    have ha : aheadOf f.package = f.package ++ [46] := if_neg hp
    rw [ha] at hal
    have htab : table f = addAllT [] (tyAll (f.package ++ [46]) f.enums f.msgs) := by unfold table tyFile; rw [ha]
    try refine e_fl ?_
    refine e_plain (w_op rfl rfl rfl (s_faddr_box rfl (kn rfl) off_26_0) (w_op rfl rfl rfl (s_load1_box rfl (kn rfl) rfl rfl one_9) (w_op rfl rfl rfl (s_bin rfl (kn rfl) (kn rfl) (v_sadd (by first | omega | (simp only [List.length_append, List.length_cons, List.length_nil]; omega)))) (w_as rfl rfl rfl rfl rfl .nil)))) ?_
    try refine e_fl ?_
    try refine e_fl ?_
    refine e_list ?_
    refine l_mv ?_
    refine l_mv ?_
    refine l_op (s_faddr_box rfl (kn rfl) off_26_2) ?_
    refine l_op (s_load1_box rfl (kn rfl) rfl rfl one_24) ?_
    refine l_op (s_faddr_box rfl (kn rfl) off_26_1) ?_
    refine l_op (s_load1_box rfl (kn rfl) rfl rfl one_23) ?_
    refine e_calli rfl rfl rfl rfl (by kernel_rfl) (addAll_g ED EL N hN 8 (f.package ++ [46]) f.enums f.msgs [] tb0 hf.fine.2.1 hf.fine.1 hf.en (fun k hk => ⟨hf.ms k hk, hf.fine.2.2.2 k hk⟩) hal) ⟨rfl, trivial⟩ ⟨rfl, rfl, trivial⟩ ⟨(kn rfl), ⟨(kn rfl), ⟨(kn rfl), ⟨(kn rfl), trivial⟩⟩⟩⟩ (TbY.tidy) ?_
    rintro _ _ _ (⟨M, hr, rfl, rfl, rfl⟩ | ⟨k, li, co, M, hr, rfl, rfl, rfl⟩)
    · have hr' : table f = .ok M := htab.trans hr
      have hM := addAllT_ok tb0 hr
      have htl := tds_len hM.2
      rw [hr']
      refine l_as ?_
      refine e_nil ?_
      try refine e_fl ?_
      refine e_plain (w_mv rfl rfl rfl rfl rfl (w_op rfl rfl rfl (s_nil_neq rfl (kn rfl) ifc_28) .nil)) ?_
      try refine e_fl ?_
      refine c_no ?_
      try refine e_fl ?_
      refine e_plain (w_mv rfl rfl rfl rfl rfl (w_as rfl rfl rfl rfl rfl (w_as rfl rfl rfl rfl rfl .nil))) ?_
      try refine e_fl ?_
      refine e_freeze_mcell 1000 201 1001 rfl (tCs_get htl _ 1) rfl rfl (tCs_fr1 htl _ _) ?_ rfl
      refine e_freeze_mcell 1000 202 1002 rfl (fr2_get htl _ _) rfl rfl (tCs_fr2 htl _ _ _) ?_ rfl
      refine e_data 2 1000 rfl rfl (manyOf_bcs _) ?_
      exact e_return rfl rfl (.tmp (kn rfl) (.tmp (kn rfl) (.nil))) (Imp.refl _) rfl
    · have hr' : table f = .error (k, li, co) := htab.trans hr
      rw [hr']
      refine l_as ?_
      refine e_nil ?_
      try refine e_fl ?_
      refine e_plain (w_mv rfl rfl rfl rfl rfl (w_op rfl rfl rfl (s_err_neq rfl (kn rfl) rfl ifc_28) .nil)) ?_
      try refine e_fl ?_
      refine c_yes ?_
      try refine e_fl ?_
      refine e_plain (w_mv rfl rfl rfl rfl rfl (w_as rfl rfl rfl rfl rfl (w_as rfl rfl rfl rfl rfl .nil))) ?_
      try refine e_fl ?_
      exact e_return rfl rfl (.tmp (kn rfl) (.tmp (kn rfl) (.nil))) (Imp.refl _) rfl
end Go.Proofs.YtekeanikgcpijaaGreatDoor
namespace Go.Proofs.YtekeanikgcpijaaGreatDoor
open Go.RowKit
set_option maxRecDepth 100000 in
theorem join_ef (gls : List (Nat × List Value)) (s t : List UInt8) (hs : s.length ≤ 100000000000000) (ht : t.length ≤ 100000000000000) : EF Tryz.prog gls 31 [sP s, sP t] (.part (sP (aheadOf s ++ t))) := by
  refine ef_enter 13 Tryz.func31 rfl rfl rfl fun w D => ?_
  try refine e_fl ?_
  refine e_plain (w_as rfl rfl rfl rfl rfl .nil) ?_
  try refine e_fl ?_
  refine e_plain (w_mv rfl rfl rfl rfl rfl (w_op rfl rfl rfl (s_slen rfl (kn rfl) str_9) (w_op rfl rfl rfl (s_bin rfl (kn rfl) (kn rfl) v_gtr) .nil))) ?_
  try refine e_fl ?_
  refine e_cond rfl (fun h => ?_) (fun h => ?_)
  · have hn : ¬ s = [] := fun e => by rw [e] at h; exact absurd h (by decide)
    have ha : aheadOf s = s ++ [46] := if_neg hn
    rw [ha]
    try refine e_fl ?_
    refine e_plain (w_mv rfl rfl rfl rfl rfl (w_op rfl rfl rfl (s_bin rfl (kn rfl) (kn rfl) (v_sadd (by first | omega | (simp only [List.length_append, List.length_cons, List.length_nil]; omega)))) (w_mv rfl rfl rfl rfl rfl (w_op rfl rfl rfl (s_bin rfl (kn rfl) (kn rfl) (v_sadd (by first | omega | (simp only [List.length_append, List.length_cons, List.length_nil]; omega)))) (w_as rfl rfl rfl rfl rfl .nil))))) ?_
    try refine e_fl ?_
    exact e_return rfl rfl (.tmp (kn rfl) (.nil)) (Imp.refl _) rfl
  · have hn : s = [] := List.length_eq_zero_iff.1 (by have := of_decide_eq_false h; omega)
    have ha : aheadOf s = [] := if_pos hn
    rw [ha]
    try refine e_fl ?_
    refine e_plain (w_mv rfl rfl rfl rfl rfl (w_as rfl rfl rfl rfl rfl .nil)) ?_
    try refine e_fl ?_
    exact e_return rfl rfl (.tmp (kn rfl) (.nil)) (Imp.refl _) rfl
set_option maxRecDepth 100000 in
theorem rfind_ef (gls : List (Nat × List Value)) (L : List Ty) (hL : L.length ≤ 100000000000) (x : List UInt8) : EF Tryz.prog gls 18 [.one (.row 5 L.length (L.flatMap Ty.dats)), sP x] (findR L x) := by
  refine ef_enter 21 Tryz.func18 rfl rfl rfl fun w D => ?_
  try refine e_fl ?_
  refine e_list ?_
  refine e_alloc 4 [.is (.string ⟨#[]⟩), .is (.bool false), .is (.int .i64 0), .is (.int .i64 0), .is (.int .i64 0)] rfl rfl rfl rfl zr_48 (fun w D M V => ⟨rfl, fun j x v h1 h2 => cfit_is _ h1 h2 rfl⟩) rfl rfl rfl rfl ?_
  refine l_as ?_
  refine e_nil ?_
  try refine e_fl ?_
  refine e_plain (w_mv rfl rfl rfl rfl rfl (w_op rfl rfl rfl (s_len rfl (kn rfl) sle_34) (w_mv rfl rfl rfl rfl rfl .nil))) ?_
  try refine e_fl ?_
  refine e_loop (ι := { i : Nat // i ≤ L.length ∧ ffind x L = ffind x (L.drop i) })
    (fun i => [(1, .part (sP x)), (4, .box 4 0), (8, .part (.one (.row 5 L.length (L.flatMap Ty.dats)))), (9, .is (.int .i64 (L.length : Int))), (10, .is (.int .i64 (i.1 : Int)))])
    (fun _ => [(4, ⟨48, [.is (.string ⟨#[]⟩), .is (.bool false), .is (.int .i64 0), .is (.int .i64 0), .is (.int .i64 0)]⟩)]) (fun _ => []) (fun i => L.length - i.1)
    ⟨0, by omega, rfl⟩
    (fun K => e_sub ⟨s_t, s_t, s_t, s_t, s_t, trivial⟩ ⟨s_b, trivial⟩ trivial) ?_
  rintro ⟨i, hi, hinv⟩
  dsimp only at hi hinv ⊢
  try refine e_fl ?_
  refine e_plain (w_op rfl rfl rfl (s_bin rfl (kn rfl) (kn rfl) v_lss) .nil) ?_
  try refine e_fl ?_
  refine e_cond rfl (fun h => ?_) (fun h => ?_)
  · have hlt : i < L.length := by have := of_decide_eq_true h; omega
    obtain ⟨t, ht⟩ : ∃ t, L[i]? = some t := ⟨_, List.getElem?_eq_getElem hlt⟩
    rw [drop_cons ht, ffind] at hinv
    try refine e_fl ?_
    refine e_list ?_
    refine l_op (s_index rfl (kn rfl) (kn rfl) (by omega) ht Ty.dats_len sle_34 esz_34 rfl) ?_
    refine l_op (s_loadn_ref rfl (kn rfl) agg_48 sz_48) ?_
    refine e_alloc 7 [.is (.string ⟨#[]⟩), .is (.bool false), .is (.int .i64 0), .is (.int .i64 0), .is (.int .i64 0)] rfl rfl rfl rfl zr_48 (fun w D M V => ⟨rfl, fun j x v h1 h2 => cfit_is _ h1 h2 rfl⟩) rfl rfl rfl rfl ?_
    refine e_storew rfl rfl rfl (kn rfl) rfl (kn rfl) rfl rfl sz_48 ?_
    refine e_nil ?_
    try refine e_fl ?_
    refine e_plain (w_op rfl rfl rfl (s_faddr_box rfl (kn rfl) off_48_0) (w_op rfl rfl rfl (s_load1_box rfl (kn rfl) rfl rfl one_9) (w_mv rfl rfl rfl rfl rfl (w_op rfl rfl rfl (s_bin rfl (kn rfl) (kn rfl) (v_seql)) .nil)))) ?_
    try refine e_fl ?_
    refine e_cond rfl (fun h1 => ?_) (fun h1 => ?_)
    · rw [if_pos (of_decide_eq_true h1)] at hinv
      try refine e_fl ?_
      refine e_list ?_
      refine l_op (s_loadn_box (ds := [_, _, _, _, _]) 5 rfl (kn rfl) rfl rfl agg_48 sz_48 rfl) ?_
      refine e_storew rfl rfl rfl (kn rfl) rfl (kn rfl) rfl rfl sz_48 ?_
      refine l_as ?_
      refine e_nil ?_
      try refine e_fl ?_
      exact e_return rfl rfl (.cell rfl rfl rfl agg_48 sz_48 rfl (.tmp (kn rfl) (.nil))) (Imp.of_eq (by unfold findR; rw [hinv]; rfl)) rfl
    · rw [if_neg (of_decide_eq_false h1)] at hinv
      try refine e_fl ?_
      refine e_plain (w_op rfl rfl rfl (s_bin rfl (kn rfl) (kn rfl) (v_add64 (by first | omega | (dsimp only; omega) | omega))) (w_mv rfl rfl rfl rfl rfl .nil)) ?_
      try refine e_fl ?_
      refine e_again ⟨i + 1, by omega, hinv⟩ (by dsimp only; omega) (fun K => e_sub ⟨s_t, s_t, s_t, s_t, s_t, trivial⟩ ⟨s_b, trivial⟩ trivial)
  · obtain rfl : i = L.length := by have := of_decide_eq_false h; omega
    rw [List.drop_length, ffind] at hinv
    try refine e_fl ?_
    refine e_list ?_
    refine l_op (s_build (ds := [_, _, _, _, _]) [] rfl trivial rfl pl_48 zr_48 (fun w D => .cons (.cell _) (.cons (.cell _) (.cons (.cell _) (.cons (.cell _) (.cons (.cell _) (.nil _ _)))))) rfl) ?_
    refine e_storew rfl rfl rfl (kn rfl) rfl (kn rfl) rfl rfl sz_48 ?_
    refine l_as ?_
    refine e_nil ?_
    try refine e_fl ?_
    exact e_return rfl rfl (.cell rfl rfl rfl agg_48 sz_48 rfl (.tmp (kn rfl) (.nil))) (Imp.of_eq (by unfold findR; rw [hinv]; rfl)) rfl
def tyVs (xs : List Ty) : List Value := xs.flatMap Ty.vals
theorem tyVs_dats (xs : List Ty) : (tyVs xs).map .cell = xs.flatMap Ty.dats := by
  unfold tyVs
  rw [List.map_flatMap]
  rfl
abbrev rT (xs : List Ty) : Rw := ⟨48, 5, xs.length, xs.flatMap Ty.dats, false⟩
theorem dats_one (xs : List Ty) : (xs.flatMap Ty.dats).all Dat.isOne = true := by
  rw [List.all_eq_true]
  intro d hd
  obtain ⟨x, _, hx⟩ := List.mem_flatMap.1 hd
  obtain ⟨v, hv, rfl⟩ := List.mem_map.1 hx
  have : x.vals.all (·.oneCell') = true := rfl
  exact List.all_eq_true.1 this v hv
set_option maxRecDepth 100000 in
theorem renums_eo (gls : List (Nat × List Value)) (N : Nat) (hN : N ≤ 1000000) (s : List UInt8) (hs : s.length ≤ 10000000000000) (e : List Enm) (hel : e.length ≤ 100000000000) (he : ∀ x ∈ e, NmOk N x.name) :
    EO Tryz.prog gls 22 [sP s, .one (.row 4 e.length (e.flatMap Enm.dats))] 48 5 (e.map (tyE (aheadOf s))).length (tyVs (e.map (tyE (aheadOf s)))) := by
  refine eo_enter 29 Tryz.func22 rfl rfl rfl fun w D => ?_
  try refine e_fl ?_
  refine e_plain (w_as rfl rfl rfl rfl rfl .nil) ?_
  try refine e_fl ?_
  refine e_list ?_
  refine e_made 100 rfl rfl rfl rfl sl_34 ap_34 rfl rfl ?_
  refine l_as ?_
  refine e_nil ?_
  try refine e_fl ?_
  refine e_plain (w_mv rfl rfl rfl rfl rfl (w_op rfl rfl rfl (s_len rfl (kn rfl) sle_38) (w_mv rfl rfl rfl rfl rfl .nil))) ?_
  try refine e_fl ?_
  refine e_loop (ι := { i : Nat // i ≤ e.length })
    (fun i => [(0, .part (sP s)), (5, .own 100), (9, .part (.one (.row 4 e.length (e.flatMap Enm.dats)))), (10, .is (.int .i64 (e.length : Int))), (11, .is (.int .i64 (i.1 : Int)))])
    (fun _ => []) (fun i => [(100, rT ((e.take i.1).map (tyE (aheadOf s))))]) (fun i => e.length - i.1)
    ⟨0, by omega⟩
    (fun K => e_sub ⟨s_t, s_t, s_t, s_t, s_t, trivial⟩ trivial ⟨rfl, trivial⟩) ?_
  rintro ⟨i, hi⟩
  dsimp only at hi ⊢
  try refine e_fl ?_
  refine e_plain (w_op rfl rfl rfl (s_bin rfl (kn rfl) (kn rfl) v_lss) .nil) ?_
  try refine e_fl ?_
  refine e_cond rfl (fun h => ?_) (fun h => ?_)
  · have hlt : i < e.length := by have := of_decide_eq_true h; omega
    obtain ⟨x, hx⟩ : ∃ x, e[i]? = some x := ⟨_, List.getElem?_eq_getElem hlt⟩
    obtain ⟨hx1, hx2, hx3⟩ := he x (List.mem_of_getElem? hx)
    have htk : (e.take (i + 1)).map (tyE (aheadOf s)) = (e.take i).map (tyE (aheadOf s)) ++ [tyE (aheadOf s) x] := by rw [List.take_add_one, hx, List.map_append]; rfl
    have hl : ((e.take i).map (tyE (aheadOf s))).length = i := by rw [List.length_map, List.length_take]; omega
    try refine e_fl ?_
    refine e_list ?_
    refine l_op (s_index rfl (kn rfl) (kn rfl) (by omega) hx Enm.dats_len sle_38 esz_38 rfl) ?_
    refine l_op (s_loadn_ref rfl (kn rfl) agg_85 sz_85) ?_
    refine e_alloc 7 [.is (.string ⟨#[]⟩), .is (.slice none 0 0), .is (.int .i64 0), .is (.int .i64 0)] rfl rfl rfl rfl zr_85 (fun w D M V => ⟨rfl, fun j x v h1 h2 => cfit_is _ h1 h2 rfl⟩) rfl rfl rfl rfl ?_
    refine e_storew rfl rfl rfl (kn rfl) rfl (kn rfl) rfl rfl sz_85 ?_
    refine e_nil ?_
    try refine e_fl ?_
    refine e_draw_tail 11 mixed (by kernel_rfl) (w_mv rfl rfl rfl rfl rfl (w_mv rfl rfl rfl rfl rfl (w_op rfl rfl rfl (s_faddr_box rfl (kn rfl) off_85_0) (w_op rfl rfl rfl (s_load1_box rfl (kn rfl) rfl rfl one_9) (w_op rfl rfl rfl (s_call rfl (by kernel_rfl) (join_ef gls s x.name (by omega) (by omega)) ⟨(kn rfl), ⟨(kn rfl), trivial⟩⟩) (w_op rfl rfl rfl (s_faddr_box rfl (kn rfl) off_85_2) (w_op rfl rfl rfl (s_load1_box rfl (kn rfl) rfl rfl one_3) (w_op rfl rfl rfl (s_faddr_box rfl (kn rfl) off_85_3) (w_op rfl rfl rfl (s_load1_box rfl (kn rfl) rfl rfl one_3) (w_op rfl rfl rfl (s_build (ds := [_, _, _, _, _]) [(0, _), (1, _), (3, _), (4, _)] rfl ⟨rfl, (kn rfl), ⟨rfl, (kn rfl), ⟨rfl, (kn rfl), ⟨rfl, (kn rfl), trivial⟩⟩⟩⟩ rfl pl_48 zr_48 (fun w D => .cons (.cell _) (.cons (.cell _) (.cons (.cell _) (.cons (.cell _) (.cons (.cell _) (.nil _ _)))))) rfl) (w_op rfl rfl rfl (s_buildSlice (ds := [_, _, _, _, _]) [(0, _)] rfl ⟨rfl, (kn rfl), trivial⟩ rfl sl_34 sz_48 zr_48 (fun w D => .cons (.cell _) (.cons (.cell _) (.cons (.cell _) (.cons (.cell _) (.cons (.cell _) (.nil _ _)))))) rfl rfl rfl rfl rfl) .nil))))))))))) ?_
    refine e_append rfl rfl rfl rfl (kn rfl) rfl (kn rfl) sl_34 ap_34 rfl rfl (by first | omega | (dsimp only; omega) | omega) (by first | omega | (dsimp only; omega) | omega) ?_
    refine l_as ?_
    refine e_nil ?_
    try refine e_fl ?_
    refine e_plain (w_op rfl rfl rfl (s_bin rfl (kn rfl) (kn rfl) (v_add64 (by first | omega | (dsimp only; omega) | omega))) (w_mv rfl rfl rfl rfl rfl .nil)) ?_
    try refine e_fl ?_
    refine e_again ⟨i + 1, by omega⟩ (by dsimp only; omega) (fun K => e_sub ⟨s_t, s_t, s_t, s_t, s_t, trivial⟩ trivial ⟨rowEq rfl (by rw [htk]; simp) (by rw [htk, List.flatMap_append]; rfl), trivial⟩)
  · obtain rfl : i = e.length := by have := of_decide_eq_false h; omega
    rw [List.take_length]
    try refine e_fl ?_
    refine e_plain (w_mv rfl rfl rfl rfl rfl (w_as rfl rfl rfl rfl rfl .nil)) ?_
    try refine e_fl ?_
    exact e_return_own rfl rfl rfl rfl ((tyVs_dats _).symm) rfl
end Go.Proofs.YtekeanikgcpijaaGreatDoor
namespace Go.Proofs.YtekeanikgcpijaaGreatDoor
open Go.RowKit
theorem tyMs_append (a : List UInt8) : ∀ l k : List Msg, tyMs a (l ++ k) = tyMs a l ++ tyMs a k
  | [], k => rfl
  | x :: l, k => by
    rw [List.cons_append, tyMs, tyMs, tyMs_append a l k, List.append_assoc]
theorem tyMs_one (a : List UInt8) (x : Msg) : tyMs a [x] = tyM a x := by
  rw [tyMs, tyMs, List.append_nil]
theorem tyMs_take (a : List UInt8) {m : List Msg} {i : Nat} {x : Msg} (h : m[i]? = some x) : tyMs a (m.take (i + 1)) = tyMs a (m.take i) ++ tyM a x := by
  rw [List.take_add_one, h]
  show tyMs a (m.take i ++ [x]) = _
  rw [tyMs_append, tyMs_one]
mutual
theorem tyM_len (a b : List UInt8) : ∀ x : Msg, (tyM a x).length = (tyM b x).length
  | .mk n f o m e r s l c => by
    simp only [tyM, List.length_cons, List.length_append, List.length_map]
    rw [tyMs_len (a ++ n ++ [46]) (b ++ n ++ [46]) m]
theorem tyMs_len (a b : List UInt8) : ∀ m : List Msg, (tyMs a m).length = (tyMs b m).length
  | [] => rfl
  | x :: m => by
    simp only [tyMs, List.length_append]
    rw [tyM_len a b x, tyMs_len a b m]
end
theorem tyMs_part (a : List UInt8) {m : List Msg} {i : Nat} {x : Msg} (h : m[i]? = some x) : (tyMs a (m.take i)).length + (tyM a x).length ≤ (tyMs a m).length := by
  have e : m = m.take (i + 1) ++ m.drop (i + 1) := (List.take_append_drop _ _).symm
  have : (tyMs a m).length = (tyMs a (m.take (i + 1))).length + (tyMs a (m.drop (i + 1))).length := by
    rw [← List.length_append, ← tyMs_append, List.take_append_drop]
  rw [this, tyMs_take a h, List.length_append]
  omega
theorem ahead_name {s n : List UInt8} (h : n ≠ []) : aheadOf (aheadOf s ++ n) = aheadOf s ++ n ++ [46] := if_neg fun e => h (List.append_eq_nil_iff.1 e).2
theorem cells_one (xs : List Ty) : ((tyVs xs).map Dat.cell).all Dat.isOne = true := by
  rw [tyVs_dats]
  exact dats_one xs
theorem ahead_len (s : List UInt8) : (aheadOf s).length ≤ s.length + 1 := by
  unfold aheadOf
  split
  · simp
  · simp
set_option maxRecDepth 100000 in
set_option maxHeartbeats 4000000 in
theorem rmsgs_step (gls : List (Nat × List Value)) (N : Nat) (hN : N ≤ 1000000) (d k : Nat) (s : List UInt8) (m : List Msg) (ih : ∀ x ∈ m, ∀ s' : List UInt8, s'.length + k * (N + 2) ≤ 1000000000000 → (tyMs (aheadOf s') x.msgs).length ≤ 1000000000 → EO Tryz.prog gls 23 [sP s', .one (.row 9 x.msgs.length (x.msgs.flatMap Msg.dats))] 48 5 (tyMs (aheadOf s') x.msgs).length (tyVs (tyMs (aheadOf s') x.msgs)))
    (hs : s.length + (k + 1) * (N + 2) ≤ 1000000000000) (hml : m.length ≤ 100000000000) (hm : ∀ x ∈ m, MOk N (d + 1) x ∧ x.fine) (ht : (tyMs (aheadOf s) m).length ≤ 1000000000) :
    EO Tryz.prog gls 23 [sP s, .one (.row 9 m.length (m.flatMap Msg.dats))] 48 5 (tyMs (aheadOf s) m).length (tyVs (tyMs (aheadOf s) m)) := by
  have hs' : s.length + k * (N + 2) + (N + 2) ≤ 1000000000000 := by rw [Nat.succ_mul] at hs; omega
  have hah := ahead_len s
  refine eo_enter 43 Tryz.func23 rfl rfl rfl fun w D => ?_
  try refine e_fl ?_
  refine e_plain (w_as rfl rfl rfl rfl rfl .nil) ?_
  try refine e_fl ?_
  refine e_list ?_
  refine e_made 100 rfl rfl rfl rfl sl_34 ap_34 rfl rfl ?_
  refine l_as ?_
  refine e_nil ?_
  try refine e_fl ?_
  refine e_plain (w_mv rfl rfl rfl rfl rfl (w_op rfl rfl rfl (s_len rfl (kn rfl) sle_37) (w_mv rfl rfl rfl rfl rfl .nil))) ?_
  try refine e_fl ?_
  refine e_loop (ι := { i : Nat // i ≤ m.length })
    (fun i => [(0, .part (sP s)), (5, .own 100), (10, .part (.one (.row 9 m.length (m.flatMap Msg.dats)))), (11, .is (.int .i64 (m.length : Int))), (12, .is (.int .i64 (i.1 : Int)))])
    (fun _ => []) (fun i => [(100, rT (tyMs (aheadOf s) (m.take i.1)))]) (fun i => m.length - i.1)
    ⟨0, by omega⟩
    (fun K => e_sub ⟨s_t, s_t, s_t, s_t, s_t, trivial⟩ trivial ⟨rfl, trivial⟩) ?_
  rintro ⟨i, hi⟩
  dsimp only at hi ⊢
  try refine e_fl ?_
  refine e_plain (w_op rfl rfl rfl (s_bin rfl (kn rfl) (kn rfl) v_lss) .nil) ?_
  try refine e_fl ?_
  refine e_cond rfl (fun h => ?_) (fun h => ?_)
  · have hlt : i < m.length := by have := of_decide_eq_true h; omega
    obtain ⟨x, hx⟩ : ∃ x, m[i]? = some x := ⟨_, List.getElem?_eq_getElem hlt⟩
    obtain ⟨hxo, hxf⟩ := hm x (List.mem_of_getElem? hx)
    obtain ⟨⟨hx1, hx2, hx3⟩, hxe, hxm⟩ := hxo.all
    obtain ⟨f1, f2, f3, f4, f5, f6, f7, f8⟩ := (Msg.fine_iff x).1 hxf
    have hpart := tyMs_part (aheadOf s) hx
    have hmd := tyM_md (aheadOf s) x
    have han := ahead_name (s := s) hx1
    have hml1 : (tyM (aheadOf s) x).length = 1 + ((x.enums.map (tyE (aheadOf s ++ x.name ++ [46]))).length + (tyMs (aheadOf s ++ x.name ++ [46]) x.msgs).length) := by
      rw [hmd]
      unfold tyAll
      rw [List.length_cons, List.length_append]
      omega
    have htk := tyMs_take (aheadOf s) hx
    have hfl : (aheadOf s ++ x.name).length ≤ s.length + 1 + N := by rw [List.length_append]; omega
    have he := (renums_eo gls N hN (aheadOf s ++ x.name) (by omega) x.enums f4 hxe).ef
    have hms := (ih x (List.mem_of_getElem? hx) (aheadOf s ++ x.name) (by omega) (by rw [han]; omega)).ef
    rw [han] at he hms
    try refine e_fl ?_
    refine e_list ?_
    refine l_op (s_index rfl (kn rfl) (kn rfl) (by omega) hx Msg.dats_len sle_37 esz_37 (dats_md x)) ?_
    refine l_op (s_loadn_ref rfl (kn rfl) agg_78 sz_78) ?_
    refine e_alloc 7 [.is (.string ⟨#[]⟩), .is (.slice none 0 0), .is (.slice none 0 0), .is (.slice none 0 0), .is (.slice none 0 0), .is (.slice none 0 0), .is (.slice none 0 0), .is (.int .i64 0), .is (.int .i64 0)] rfl rfl rfl rfl zr_78 (fun w D M V => ⟨rfl, fun j x v h1 h2 => cfit_is _ h1 h2 rfl⟩) rfl rfl rfl rfl ?_
    refine e_storew rfl rfl rfl (kn rfl) rfl (kn rfl) rfl rfl sz_78 ?_
    refine e_nil ?_
    try refine e_fl ?_
    refine e_plain (w_mv rfl rfl rfl rfl rfl (w_op rfl rfl rfl (s_faddr_box rfl (kn rfl) off_78_0) (w_op rfl rfl rfl (s_load1_box rfl (kn rfl) rfl rfl one_9) (w_op rfl rfl rfl (s_call rfl (by kernel_rfl) (join_ef gls s x.name (by omega) (by omega)) ⟨(kn rfl), ⟨(kn rfl), trivial⟩⟩) (w_as rfl rfl rfl rfl rfl .nil))))) ?_
    try refine e_fl ?_
    refine e_list ?_
    refine l_mv ?_
    refine l_mv ?_
    refine l_op (s_faddr_box rfl (kn rfl) off_78_7) ?_
    refine l_op (s_load1_box rfl (kn rfl) rfl rfl one_3) ?_
    refine l_op (s_faddr_box rfl (kn rfl) off_78_8) ?_
    refine l_op (s_load1_box rfl (kn rfl) rfl rfl one_3) ?_
    refine l_op (s_build (ds := [_, _, _, _, _]) [(0, _), (3, _), (4, _)] rfl ⟨rfl, (kn rfl), ⟨rfl, (kn rfl), ⟨rfl, (kn rfl), trivial⟩⟩⟩ rfl pl_48 zr_48 (fun w D => .cons (.cell _) (.cons (.cell _) (.cons (.cell _) (.cons (.cell _) (.cons (.cell _) (.nil _ _)))))) rfl) ?_
    refine l_op (s_buildSlice (ds := [_, _, _, _, _]) [(0, _)] rfl ⟨rfl, (kn rfl), trivial⟩ rfl sl_34 sz_48 zr_48 (fun w D => .cons (.cell _) (.cons (.cell _) (.cons (.cell _) (.cons (.cell _) (.cons (.cell _) (.nil _ _)))))) rfl rfl rfl rfl rfl) ?_
    refine e_append rfl rfl rfl rfl (kn rfl) rfl (kn rfl) sl_34 ap_34 rfl rfl (by first | omega | (dsimp only; omega) | omega) (by first | omega | (dsimp only; omega) | omega) ?_
    refine l_as ?_
    refine e_nil ?_
    try refine e_fl ?_
    refine e_list ?_
    refine l_mv ?_
    refine l_mv ?_
    refine l_op (s_faddr_box rfl (kn rfl) off_78_4) ?_
    refine l_op (s_load1_box rfl (kn rfl) rfl rfl one_38) ?_
    refine l_op (s_call rfl (by kernel_rfl) (he) ⟨(kn rfl), ⟨(kn rfl), trivial⟩⟩) ?_
    refine e_append rfl rfl rfl rfl (kn rfl) rfl (kn rfl) sl_34 ap_34 rfl (cells_one _) (by first | omega | (dsimp only; omega) | omega) (by first | omega | (dsimp only; omega) | omega) ?_
    refine l_as ?_
    refine e_nil ?_
    try refine e_fl ?_
    refine e_list ?_
    refine l_mv ?_
    refine l_mv ?_
    refine l_op (s_faddr_box rfl (kn rfl) off_78_3) ?_
    refine l_op (s_load1_box rfl (kn rfl) rfl rfl one_37) ?_
    refine l_op (s_call rfl (by kernel_rfl) (hms) ⟨(kn rfl), ⟨(kn rfl), trivial⟩⟩) ?_
    refine e_append rfl rfl rfl rfl (kn rfl) rfl (kn rfl) sl_34 ap_34 rfl (cells_one _) (by first | omega | (dsimp only; omega) | omega) (by first | omega | (dsimp only; omega) | omega) ?_
    refine l_as ?_
    refine e_nil ?_
    try refine e_fl ?_
    refine e_plain (w_op rfl rfl rfl (s_bin rfl (kn rfl) (kn rfl) (v_add64 (by first | omega | (dsimp only; omega) | omega))) (w_mv rfl rfl rfl rfl rfl .nil)) ?_
    try refine e_fl ?_
    refine e_again ⟨i + 1, by omega⟩ (by dsimp only; omega) (fun K => e_sub ⟨s_t, s_t, s_t, s_t, s_t, trivial⟩ trivial ⟨rowEq rfl (by rw [htk, List.length_append, hml1]; omega) (by rw [htk, hmd, tyVs_dats, tyVs_dats]; unfold tyAll; simp only [List.flatMap_append, List.flatMap_cons, List.append_assoc]; rfl), trivial⟩)
  · obtain rfl : i = m.length := by have := of_decide_eq_false h; omega
    rw [List.take_length]
    try refine e_fl ?_
    refine e_plain (w_mv rfl rfl rfl rfl rfl (w_as rfl rfl rfl rfl rfl .nil)) ?_
    try refine e_fl ?_
    exact e_return_own rfl rfl rfl rfl ((tyVs_dats _).symm) rfl
theorem rmsgs_eo (gls : List (Nat × List Value)) (N : Nat) (hN : N ≤ 1000000) : ∀ (d : Nat) (s : List UInt8) (m : List Msg), s.length + (d + 1) * (N + 2) ≤ 1000000000000 → m.length ≤ 100000000000 → (∀ x ∈ m, MOk N d x ∧ x.fine) → (tyMs (aheadOf s) m).length ≤ 1000000000 →
    EO Tryz.prog gls 23 [sP s, .one (.row 9 m.length (m.flatMap Msg.dats))] 48 5 (tyMs (aheadOf s) m).length (tyVs (tyMs (aheadOf s) m))
  | 0, s, m, hs, hml, hm, ht => rmsgs_step gls N hN 0 0 s m (fun x hx => ((hm x hx).1 : False).elim) hs hml (fun x hx => ((hm x hx).1 : False).elim) ht
  | d + 1, s, m, hs, hml, hm, ht => rmsgs_step gls N hN d (d + 1) s m (fun x hx s' hs' ht' => by
      have hx' := (hm x hx).1.all
      have hf := (Msg.fine_iff x).1 (hm x hx).2
      exact rmsgs_eo gls N hN d s' x.msgs hs' hf.2.2.1 (fun k hk => ⟨hx'.2.2 k hk, hf.2.2.2.2.2.2.2 k hk⟩) ht') hs hml hm ht
end Go.Proofs.YtekeanikgcpijaaGreatDoor
