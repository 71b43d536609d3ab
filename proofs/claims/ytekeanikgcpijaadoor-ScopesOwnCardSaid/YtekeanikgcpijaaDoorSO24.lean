/- Part 24 of what the last text of this claim is proved by: walks over the program, and the math behind them. Conditions: as each theorem says. -/
import Derived.Test.YtekeanikgcpijaaDoorSO23
import Derived.Test.YtekeanikgcpijaaDoorProg
import Derived.WalkKit
import Derived.LaidEql
import Derived.LaidEqlPtr
import Derived.Stop.Asserts
import Derived.RowKitTokens
import Derived.Stop.LaidErr
import Derived.WideLaws
import Derived.Laws.Rows
import Derived.Defers
import Derived.Recover
import Derived.Laws.Pointers
import Derived.Deep.RegionHeld3
import Derived.Lib.Hide
import Derived.Deep.LoopGhost
namespace Go.Proofs.YtekeanikgcpijaaDoor
open Go.RowKit
theorem sFile_syn (l : List Tk) : sFile l = match sSyn l with
 | .error e => .error e
 | .ok s =>
  match sPackage l s with
  | .error e => .error e
  | .ok (pk, u) => sParts l (l.length + 1) ⟨pk, [], []⟩ u := by
 unfold sSyn
 cases h : sWants l [wSyntax, [61]] 0 with
 | error e => exact sFile_bad h
 | ok q =>
  rw [(sFile_ok h).1]
  unfold sHeadBehind
  dsimp only
  cases ht : sText l q with
  | error e => rfl
  | ok x =>
   obtain ⟨t, r⟩ := x
   dsimp only
   by_cases hp : t = wProto3
   ·rw [if_pos hp, if_pos hp]
    cases sWant l 4 [59] r <;> rfl
   ·rw [if_neg hp, if_neg hp]
    rfl
theorem sSyn_le {l : List Tk} {q : Nat} (h : sSyn l = .ok q) : q ≤ l.length := by
 unfold sSyn at h
 split at h
 ·cases h
 split at h
 ·cases h
 ·split at h
  ·have := sWant_ok h
   omega
  ·cases h
abbrev filZ : List Dat := [.cell (.string ⟨#[]⟩), .cell (.slice none 0 0), .cell (.slice none 0 0)]
abbrev zX : Bx := ⟨28, [.is (.string ⟨#[]⟩), .is (.slice none 0 0), .is (.slice none 0 0)]⟩
def FilE (l : List Tk) (E8 E9 : Er) (r : Ans8 Fil) (y : IV) (B1 : BL) (R1 : RL) : Prop :=
 (∃ a b z, r = .error (a, b) ∧ y = .tup [.many filZ, fltP l a (erv E8 E9 b)] ∧ B1 = pB l z ∧ R1 = []) ∨ (∃ f z, r = .ok f ∧ y = .tup [.many f.dats, nilP] ∧ B1 = pB l z ∧ R1 = [])
theorem FilE.tidy {l : List Tk} {E8 E9 : Er} {r : Ans8 Fil} {q : Nat} (y : IV) (B1 : BL) (R1 : RL) (h : FilE l E8 E9 r y B1 R1) : Tidy (pB l q) [] y B1 R1 := by
 rcases h with ⟨a, b, z, _, rfl, rfl, rfl⟩ | ⟨x, z, _, rfl, rfl, rfl⟩ <;> exact ⟨rfl, rfl, rfl, rfl⟩
set_option maxRecDepth 100000 in
set_option maxHeartbeats 2000000 in
theorem file_g (E8 E9 : Er) (l : List Tk) (hl : PTk l) : EG Tryd.prog (gE E8 E9) 21 [.box 1 0] (pB l 0) [] (FilE l E8 E9 (sFile l)) := by
 refine eg_enter 54 Tryd.func21 rfl rfl rfl fun w D bor mb => ?_
 try refine e_fl ?_
 have hll := hl.len
 have hf := sFile_syn l
 refine e_list ?_
 refine e_alloc 2 [.is (.string ⟨#[]⟩), .is (.slice none 0 0), .is (.slice none 0 0)] rfl rfl rfl rfl zr_28 (fun w D M V => ⟨rfl, fun j x v h1 h2 => cfit_is _ h1 h2 rfl⟩) rfl rfl rfl rfl ?_
 refine l_as ?_
 refine e_nil ?_
 try refine e_fl ?_
 refine e_list ?_
 refine e_alloc 7 [.is (.string ⟨#[]⟩), .is (.slice none 0 0), .is (.slice none 0 0)] rfl rfl rfl rfl zr_28 (fun w D M V => ⟨rfl, fun j x v h1 h2 => cfit_is _ h1 h2 rfl⟩) rfl rfl rfl rfl ?_
 refine e_nil ?_
 try refine e_fl ?_
 refine e_list ?_
 refine l_mv ?_
 refine e_calli rfl rfl rfl rfl (by kernel_rfl) (syntax_g E8 E9 l hl) ⟨rfl, trivial⟩ trivial ⟨(kn rfl), trivial⟩ (PE.tidy) ?_
 rintro _ _ _ (⟨a, b, z, he, rfl, rfl, rfl⟩ | ⟨r, ho, rfl, rfl, rfl⟩)
 ·refine l_as ?_
  refine e_nil ?_
  try refine e_fl ?_
  refine e_plain (w_mv rfl rfl rfl rfl rfl (w_op rfl rfl rfl (s_err_neq rfl (kn rfl) rfl ifc_30) .nil)) ?_
  try refine e_fl ?_
  refine c_yes ?_
  try refine e_fl ?_
  refine e_list ?_
  refine l_op (s_build (ds := [_, _, _]) [] rfl trivial rfl pl_28 zr_28 (fun w D => .cons (.cell _) (.cons (.cell _) (.cons (.cell _) (.nil _ _)))) rfl) ?_
  refine l_mv ?_
  refine e_storew rfl rfl rfl (kn rfl) rfl (kn rfl) rfl rfl sz_28 ?_
  refine l_as ?_
  refine e_nil ?_
  try refine e_fl ?_
  exact e_returnx (pB l z) ([]) rfl (.cell rfl rfl rfl agg_28 sz_28 rfl (.tmp (kn rfl) (.nil))) (Imp.refl _) ⟨s_b, trivial⟩ trivial (.inl ⟨a, b, z, by rw [hf, he], rfl, rfl, rfl⟩)
 rw [ho] at hf
 dsimp only at hf
 have hr := sSyn_le ho
 refine l_as ?_
 refine e_nil ?_
 try refine e_fl ?_
 refine e_plain (w_mv rfl rfl rfl rfl rfl (w_op rfl rfl rfl (s_nil_neq rfl (kn rfl) ifc_30) .nil)) ?_
 try refine e_fl ?_
 refine c_no ?_
 try refine e_fl ?_
 refine e_list ?_
 refine l_mv ?_
 refine l_op (s_buildSlice (ds := [_]) [(0, _)] rfl ⟨rfl, (kn rfl), trivial⟩ rfl sl_45 sz_9 zr_9 (fun w D => .cons (.cell _) (.nil _ _)) rfl rfl rfl rfl rfl) ?_
 refine e_calli rfl rfl rfl rfl (by kernel_rfl) (take1 _ l hl [112, 97, 99, 107, 97, 103, 101] 1 rfl (by decide) r (by omega)) ⟨rfl, trivial⟩ trivial ⟨(kn rfl), ⟨(kn rfl), trivial⟩⟩ (fun _ _ _ h => PY.tidy h.1 h.2.1 h.2.2) ?_
 rintro _ _ _ ⟨rfl, rfl, rfl⟩
 refine e_nil ?_
 try refine e_fl ?_
 refine e_cutk (ι := { i : List UInt8 × Nat // sPackage l r = .ok i ∧ i.2 ≤ l.length })
  (fun i => [(0, .box 1 0), (2, .box 2 0), (3, .is .nilIface), (4, .box 7 0)])
  (fun i => [(2, zX), (7, ⟨28, [.is (.string (str i.1.1)), .is (.slice none 0 0), .is (.slice none 0 0)]⟩), (1, pX l i.1.2)])
  (fun _ => []) ?_ ?_
 ·refine e_cond rfl (fun hp => ?_) (fun hp => ?_)
  ·have hlt := tkIs_lt hp
   rw [hp]
   try refine e_fl ?_
   refine e_list ?_
   refine l_mv ?_
   refine e_calli rfl rfl rfl rfl (by kernel_rfl) (dots_g E8 E9 l hl (r + 1) (by omega)) ⟨rfl, trivial⟩ trivial ⟨(kn rfl), trivial⟩ (QE.tidy) ?_
   rintro _ _ _ (⟨a, b, z, s, _, he, rfl, rfl, rfl⟩ | ⟨s, z, hs, rfl, rfl, rfl⟩)
   ·have he' : sDotted l false (r + 1) = .error (a, b) := he
    refine l_mv ?_
    refine l_ex ?_
    refine l_ex ?_
    refine l_as ?_
    refine l_as ?_
    refine e_nil ?_
    try refine e_fl ?_
    refine e_plain (w_mv rfl rfl rfl rfl rfl (w_op rfl rfl rfl (s_err_neq rfl (kn rfl) rfl ifc_30) .nil)) ?_
    try refine e_fl ?_
    refine c_yes ?_
    try refine e_fl ?_
    refine e_list ?_
    refine l_op (s_build (ds := [_, _, _]) [] rfl trivial rfl pl_28 zr_28 (fun w D => .cons (.cell _) (.cons (.cell _) (.cons (.cell _) (.nil _ _)))) rfl) ?_
    refine l_mv ?_
    refine e_storew rfl rfl rfl (kn rfl) rfl (kn rfl) rfl rfl sz_28 ?_
    refine l_as ?_
    refine e_nil ?_
    try refine e_fl ?_
    exact e_returnx (pB l z) ([]) rfl (.cell rfl rfl rfl agg_28 sz_28 rfl (.tmp (kn rfl) (.nil))) (Imp.refl _) ⟨s_b, trivial⟩ trivial (.inl ⟨a, b, z, by rw [hf]; simp only [sPackage, hp, if_true, he'], rfl, rfl, rfl⟩)
   have hs' : sDotted l false (r + 1) = .ok (s, z) := hs
   have hz := sDotted_ok hs'
   refine l_mv ?_
   refine l_ex ?_
   refine l_ex ?_
   refine l_as ?_
   refine l_as ?_
   refine e_nil ?_
   try refine e_fl ?_
   refine e_plain (w_mv rfl rfl rfl rfl rfl (w_op rfl rfl rfl (s_nil_neq rfl (kn rfl) ifc_30) .nil)) ?_
   try refine e_fl ?_
   refine c_no ?_
   try refine e_fl ?_
   refine e_list ?_
   refine l_mv ?_
   refine l_op (s_faddr_box rfl (kn rfl) off_28_0) ?_
   refine e_store1 rfl rfl rfl (kn rfl) rfl (kn rfl) rfl rfl sz_9 rfl ?_
   refine e_nil ?_
   try refine e_fl ?_
   refine e_list ?_
   refine l_mv ?_
   refine l_op (s_buildSlice (ds := [_]) [(0, _)] rfl ⟨rfl, (kn rfl), trivial⟩ rfl sl_45 sz_9 zr_9 (fun w D => .cons (.cell _) (.nil _ _)) rfl rfl rfl rfl rfl) ?_
   refine e_calli rfl rfl rfl rfl (by kernel_rfl) (want1_g E8 E9 l hl 4 [59] rfl (by decide) z (by omega)) ⟨rfl, trivial⟩ trivial ⟨(kn rfl), ⟨(kn rfl), trivial⟩⟩ (PE.tidy) ?_
   rintro _ _ _ (⟨a, b, z, he, rfl, rfl, rfl⟩ | ⟨q, hw, rfl, rfl, rfl⟩)
   ·refine l_as ?_
    refine e_nil ?_
    try refine e_fl ?_
    refine e_plain (w_mv rfl rfl rfl rfl rfl (w_op rfl rfl rfl (s_err_neq rfl (kn rfl) rfl ifc_30) .nil)) ?_
    try refine e_fl ?_
    refine c_yes ?_
    try refine e_fl ?_
    refine e_list ?_
    refine l_op (s_build (ds := [_, _, _]) [] rfl trivial rfl pl_28 zr_28 (fun w D => .cons (.cell _) (.cons (.cell _) (.cons (.cell _) (.nil _ _)))) rfl) ?_
    refine l_mv ?_
    refine e_storew rfl rfl rfl (kn rfl) rfl (kn rfl) rfl rfl sz_28 ?_
    refine l_as ?_
    refine e_nil ?_
    try refine e_fl ?_
    exact e_returnx (pB l z) ([]) rfl (.cell rfl rfl rfl agg_28 sz_28 rfl (.tmp (kn rfl) (.nil))) (Imp.refl _) ⟨s_b, trivial⟩ trivial (.inl ⟨a, b, z, by rw [hf]; simp only [sPackage, hp, if_true, hs', he], rfl, rfl, rfl⟩)
   have hq := sWant_ok hw
   refine l_as ?_
   refine e_nil ?_
   try refine e_fl ?_
   refine e_plain (w_mv rfl rfl rfl rfl rfl (w_op rfl rfl rfl (s_nil_neq rfl (kn rfl) ifc_30) .nil)) ?_
   try refine e_fl ?_
   refine c_no ?_
   try refine e_fl ?_
   refine e_meet ⟨(s, q), by simp only [sPackage, hp, if_true, hs', hw], by dsimp only; omega⟩ (fun K => e_sub ⟨s_t, s_t, s_t, s_t, trivial⟩ ⟨s_b, s_b, s_b, trivial⟩ trivial)
  ·rw [hp]
   try refine e_fl ?_
   refine e_meet ⟨([], r), by simp only [sPackage, hp]; rfl, by dsimp only; omega⟩ (fun K => e_sub ⟨s_t, s_t, s_t, s_t, trivial⟩ ⟨s_b, s_b, s_b, trivial⟩ trivial)
 rintro ⟨⟨pk, u⟩, hpk, hu⟩
 dsimp only at hpk hu ⊢
 rw [hpk] at hf
 dsimp only at hf
 try refine e_fl ?_
 refine e_row_cell 7 1 400 48 9 rfl rfl rfl rfl rfl ?_
 refine e_row_cell 7 2 401 77 4 rfl rfl rfl rfl rfl ?_
 refine e_loop (ι := { i : Nat × Fil × Nat // 1 ≤ i.1 ∧ l.length + 1 ≤ i.1 + i.2.2 ∧ i.2.2 ≤ l.length ∧ i.2.1.msgs.length ≤ i.2.2 ∧ i.2.1.enums.length ≤ i.2.2 ∧ sFile l = sParts l i.1 i.2.1 i.2.2 })
  (fun i => [(0, .box 1 0), (2, .box 2 0), (3, .is .nilIface), (4, .box 7 0)])
  (fun i => [(2, zX), (7, flX i.1.2.1), (1, pX l i.1.2.2)]) (fun i => flR i.1.2.1)
  (fun i => i.1.1) ⟨(l.length + 1, ⟨pk, [], []⟩, u), by omega, by dsimp only; omega, hu, by simp, by simp, hf⟩
  (fun K => e_sub ⟨s_t, s_t, s_t, s_t, trivial⟩ ⟨s_b, s_b, s_b, trivial⟩ ⟨rfl, rfl, trivial⟩) ?_
 rintro ⟨⟨n', f, q⟩, hn1, hn, hq, hm, he, hw⟩
 dsimp only at hn1 hn hq hm he hw ⊢
 obtain ⟨n, rfl⟩ : ∃ n, n' = n + 1 := ⟨n' - 1, by omega⟩
 rw [sParts_decl] at hw
 try refine e_fl ?_
 refine e_draw mixed (by kernel_rfl) (w_mv rfl rfl rfl rfl rfl (w_op rfl rfl rfl (s_nil_box rfl (kn rfl)) (w_op rfl rfl rfl (s_faddr_box rfl (kn rfl) off_73_1) (w_op rfl rfl rfl (s_load1_box rfl (kn rfl) rfl rfl one_3) (w_mv rfl rfl rfl rfl rfl (w_op rfl rfl rfl (s_nil_box rfl (kn rfl)) (w_op rfl rfl rfl (s_faddr_box rfl (kn rfl) off_73_0) (w_op rfl rfl rfl (s_load1_box rfl (kn rfl) rfl rfl one_50) (w_op rfl rfl rfl (s_len rfl (kn rfl) sle_50) (w_op rfl rfl rfl (s_bin rfl (kn rfl) (kn rfl) v_lss) .nil)))))))))) ?_
 try refine e_fl ?_
 refine e_cond rfl (fun h => ?_) (fun h => ?_)
 ·have hlt : q < l.length := by
   have := of_decide_eq_true h
   omega
  rw [if_pos hlt] at hw
  try refine e_fl ?_
  refine e_list ?_
  refine l_mv ?_
  refine e_calli rfl rfl rfl rfl (by kernel_rfl) (declaration_g E8 E9 l hl f (by omega) (by omega) q (by omega)) ⟨rfl, rfl, trivial⟩ ⟨rfl, rfl, trivial⟩ ⟨(kn rfl), ⟨(kn rfl), trivial⟩⟩ (LE.tidy) ?_
  rintro _ _ _ (⟨a, b, z, g, he, rfl, rfl, rfl⟩ | ⟨g, z, ho, rfl, rfl, rfl⟩)
  ·refine l_as ?_
   refine e_nil ?_
   try refine e_fl ?_
   refine e_plain (w_mv rfl rfl rfl rfl rfl (w_op rfl rfl rfl (s_err_neq rfl (kn rfl) rfl ifc_30) .nil)) ?_
   try refine e_fl ?_
   refine c_yes ?_
   try refine e_fl ?_
   refine e_list ?_
   refine l_op (s_build (ds := [_, _, _]) [] rfl trivial rfl pl_28 zr_28 (fun w D => .cons (.cell _) (.cons (.cell _) (.cons (.cell _) (.nil _ _)))) rfl) ?_
   refine l_mv ?_
   refine e_storew rfl rfl rfl (kn rfl) rfl (kn rfl) rfl rfl sz_28 ?_
   refine l_as ?_
   refine e_nil ?_
   try refine e_fl ?_
   exact e_returnx (pB l z) ([]) rfl (.cell rfl rfl rfl agg_28 sz_28 rfl (.tmp (kn rfl) (.nil))) (Imp.refl _) ⟨s_b, trivial⟩ trivial (.inl ⟨a, b, z, by rw [hw, he], rfl, rfl, rfl⟩)
  rw [ho] at hw
  dsimp only at hw
  have hv := sDecl_ok ho
  refine l_as ?_
  refine e_nil ?_
  try refine e_fl ?_
  refine e_plain (w_mv rfl rfl rfl rfl rfl (w_op rfl rfl rfl (s_nil_neq rfl (kn rfl) ifc_30) .nil)) ?_
  try refine e_fl ?_
  refine c_no ?_
  try refine e_fl ?_
  refine e_again ⟨(n, g, z), by omega, by dsimp only; omega, by dsimp only; omega, by dsimp only; omega, by dsimp only; omega, hw⟩ (by dsimp only; omega) (fun K => e_sub ⟨s_t, s_t, s_t, s_t, trivial⟩ ⟨s_b, s_b, s_b, trivial⟩ ⟨rfl, rfl, trivial⟩)
 have hlt : ¬ q < l.length := by
  have := of_decide_eq_false h
  omega
 rw [if_neg hlt] at hw
 try refine e_fl ?_
 refine e_freeze_cell 7 1 400 rfl rfl rfl rfl rfl ?_
 refine e_freeze_cell 7 2 401 rfl rfl rfl rfl rfl ?_
 refine e_list ?_
 refine l_op (s_loadn_box (ds := [_, _, _]) 3 rfl (kn rfl) rfl rfl agg_28 sz_28 rfl) ?_
 refine e_storew rfl rfl rfl (kn rfl) rfl (kn rfl) rfl rfl sz_28 ?_
 refine l_as ?_
 refine e_nil ?_
 try refine e_fl ?_
 exact e_returnx (pB l q) ([]) rfl (.cell rfl rfl rfl agg_28 sz_28 rfl (.tmp (kn rfl) (.nil))) (Imp.refl _) ⟨s_b, trivial⟩ trivial (.inr ⟨f, q, hw, rfl, rfl, rfl⟩)
end Go.Proofs.YtekeanikgcpijaaDoor
namespace Go.Proofs.YtekeanikgcpijaaDoor
open Go.RowKit
def ParY (l : List Tk) (E8 E9 : Er) (r : Ans8 Fil) (y : IV) : Prop := (∃ a b, r = .error (a, b) ∧ y = .tup [.many filZ, fltP l a (erv E8 E9 b)]) ∨ (∃ f, r = .ok f ∧ y = .tup [.many f.dats, nilP])
set_option maxRecDepth 100000 in
theorem par_y (E8 E9 : Er) (l : List Tk) (hl : PTk l) : EFx Tryd.prog (gE E8 E9) 14 [tksP l] (ParY l E8 E9 (sFile l)) := by
 refine ef_enter 10 Tryd.func14 rfl rfl rfl fun w D => ?_
 try refine e_fl ?_
 refine e_list ?_
 refine e_alloc 2 [.is (.string ⟨#[]⟩), .is (.slice none 0 0), .is (.slice none 0 0)] rfl rfl rfl rfl zr_28 (fun w D M V => ⟨rfl, fun j x v h1 h2 => cfit_is _ h1 h2 rfl⟩) rfl rfl rfl rfl ?_
 refine l_as ?_
 refine e_nil ?_
 try refine e_fl ?_
 refine e_list ?_
 refine l_mv ?_
 refine l_op (s_build (ds := [_, _]) [(0, _)] rfl ⟨rfl, (kn rfl), trivial⟩ rfl pl_73 zr_73 (fun w D => .cons (.cell _) (.cons (.cell _) (.nil _ _))) rfl) ?_
 refine e_alloc 1 [.is (.slice none 0 0), .is (.int .i64 0)] rfl rfl rfl rfl zr_73 (fun w D M V => ⟨rfl, fun j x v h1 h2 => cfit_is _ h1 h2 rfl⟩) rfl rfl rfl rfl ?_
 refine e_storew rfl rfl rfl (kn rfl) rfl (kn rfl) rfl rfl sz_73 ?_
 refine e_nil ?_
 try refine e_fl ?_
 refine e_list ?_
 refine e_calli rfl rfl rfl rfl (by kernel_rfl) (file_g E8 E9 l hl) ⟨rfl, trivial⟩ trivial ⟨(kn rfl), trivial⟩ (FilE.tidy) ?_
 rintro _ _ _ (⟨a, b, z, he, rfl, rfl, rfl⟩ | ⟨f, z, ho, rfl, rfl, rfl⟩)
 ·refine l_ex ?_
  refine l_ex ?_
  refine e_storew rfl rfl rfl (kn rfl) rfl (kn rfl) rfl rfl sz_28 ?_
  refine l_as ?_
  refine e_nil ?_
  try refine e_fl ?_
  exact e_return rfl rfl (.cell rfl rfl rfl agg_28 sz_28 rfl (.tmp (kn rfl) (.nil))) (Imp.refl _) (.inl ⟨a, b, he, rfl⟩)
 ·refine l_ex ?_
  refine l_ex ?_
  refine e_storew rfl rfl rfl (kn rfl) rfl (kn rfl) rfl rfl sz_28 ?_
  refine l_as ?_
  refine e_nil ?_
  try refine e_fl ?_
  exact e_return rfl rfl (.cell rfl rfl rfl agg_28 sz_28 rfl (.tmp (kn rfl) (.nil))) (Imp.refl _) (.inr ⟨f, ho, rfl⟩)
end Go.Proofs.YtekeanikgcpijaaDoor
namespace Go.Proofs.YtekeanikgcpijaaDoor
structure GoodTok (x : Tok) (n : Nat) : Prop where
  one : x.k = 1 → ∃ c cs, x.t = c :: cs ∧ lxLet c = true
  two : x.k = 2 → ∃ c cs, x.t = c :: cs ∧ lxFig c = true
  four : x.k = 4 → ∃ c, x.t = [c] ∧ lxSign c = true
  kind : x.k = 1 ∨ x.k = 2 ∨ x.k = 3 ∨ x.k = 4
  num : x.n ≤ 2147483647
  len : x.t.length ≤ n
theorem lnb_num (b : Nat) (ds : List UInt8) : (lnb b ds).1 ≤ 2147483647 := by
  unfold lnb
  split
  · simp
  split
  · simp
  · dsimp only
    omega
theorem lnum_num (l : List UInt8) : (lnum l).1 ≤ 2147483647 := by
  unfold lnum
  split
  · exact lnb_num _ _
  split <;> exact lnb_num _ _
theorem take_head {l : List UInt8} {n : Nat} (h0 : 0 < l.length) (hn : 0 < n) : ∃ cs, l.take n = l.headD 0 :: cs := by
  cases l with
  | nil => simp at h0
  | cons b l =>
    obtain ⟨m, rfl⟩ : ∃ m, n = m + 1 := ⟨n - 1, by omega⟩
    exact ⟨l.take m, rfl⟩
theorem ltoken_good {k : Nat} {p : List UInt8} (h : (ltoken k p).2 = 0) (hk : k = 1 ∨ k = 2 ∨ k = 3 ∨ k = 4) (h1 : k = 1 → ∃ c cs, p = c :: cs ∧ lxLet c = true) (h2 : k = 2 → ∃ c cs, p = c :: cs ∧ lxFig c = true) (h4 : k = 4 → ∃ c, p = [c] ∧ lxSign c = true) : GoodTok (ltoken k p).1 p.length := by
  rcases hk with rfl | rfl | rfl | rfl
  · unfold ltoken at h ⊢
    rw [if_neg (by decide), if_pos rfl] at h ⊢
    split
    · rename_i hl
      rw [if_pos hl] at h
      cases h
    · exact ⟨fun _ => h1 rfl, fun h => (by cases h), fun h => (by cases h), .inl rfl, by simp, Nat.le_refl _⟩
  · unfold ltoken at h ⊢
    rw [if_neg (by decide), if_neg (by decide), if_pos rfl] at h ⊢
    split
    · exact ⟨fun h => (by cases h), fun _ => h2 rfl, fun h => (by cases h), .inr (.inl rfl), lnum_num _, Nat.le_refl _⟩
    · rename_i hl
      rw [if_neg hl] at h
      exact absurd h hl
  · unfold ltoken at h ⊢
    rw [if_neg (by decide), if_neg (by decide), if_neg (by decide), if_pos rfl] at h ⊢
    split
    · rename_i hl
      rw [if_pos hl] at h
      cases h
    · refine ⟨fun h => (by cases h), fun h => (by cases h), fun h => (by cases h), .inr (.inr (.inl rfl)), by simp, ?_⟩
      simp only [List.length_take, List.length_drop]
      omega
  · unfold ltoken
    rw [if_neg (by decide), if_neg (by decide), if_neg (by decide), if_neg (by decide)]
    exact ⟨fun h => (by cases h), fun h => (by cases h), fun _ => h4 rfl, .inr (.inr (.inr rfl)), by simp, Nat.le_refl _⟩
theorem lfirst_good {l : List UInt8} (h0 : 0 < l.length) (h : (lfirst l).2.2 = 0) (hk : (lcut l).1 ≠ 0) : GoodTok (lfirst l).1 l.length := by
  obtain ⟨_, _, _, h3, h4, h5⟩ := lfirst_size h0 h
  obtain ⟨hs, hsl⟩ := lcut_size h0 (by have := (lfirst_size h0 h).2.2.1; exact this)
  have key : GoodTok (ltoken (lcut l).1 (l.take (lcut l).2.1)).1 (l.take (lcut l).2.1).length := by
    obtain ⟨cs, hcs⟩ := take_head h0 hs
    refine ltoken_good h4 ?_ (fun h1 => ⟨_, cs, hcs, ?_⟩) (fun h1 => ⟨_, cs, hcs, ?_⟩) fun h1 => ⟨l.headD 0, ?_, ?_⟩
    · unfold lcut at hk ⊢
      split
      · rename_i a; rw [if_pos a] at hk; exact absurd rfl hk
      rename_i a; rw [if_neg a] at hk
      split
      · rename_i a; rw [if_pos a] at hk; exact absurd rfl hk
      rename_i a; rw [if_neg a] at hk
      split
      · rename_i a; rw [if_pos a] at hk; exact absurd rfl hk
      rename_i a; rw [if_neg a] at hk
      split
      · exact .inl rfl
      rename_i a; rw [if_neg a] at hk
      split
      · exact .inr (.inl rfl)
      rename_i a; rw [if_neg a] at hk
      split
      · exact .inr (.inr (.inl rfl))
      rename_i a; rw [if_neg a] at hk
      split
      · exact .inr (.inr (.inr rfl))
      rename_i a; rw [if_neg a] at hk
      exact absurd rfl hk
    all_goals
      unfold lcut at h1
      split at h1
      · cases h1
      split at h1
      · cases h1
      split at h1
      · cases h1
      split at h1
      · first | assumption | cases h1
      split at h1
      · first | assumption | cases h1
      split at h1
      · cases h1
      split at h1
      · first
          | assumption
          | (cases h1; done)
          | (rename_i a1 a2 a3 a4 a5 a6 a7
             have e : (lcut l).2.1 = 1 := by
               unfold lcut
               rw [if_neg a1, if_neg a2, if_neg a3, if_neg a4, if_neg a5, if_neg a6, if_pos a7]
             rw [e]
             cases l with
             | nil => simp at h0
             | cons b l => rfl)
      · cases h1
  rw [h5]
  obtain ⟨k1, k2, k3, k4, k5, k6⟩ := key
  exact ⟨k1, k2, k3, k4, k5, Nat.le_trans k6 (by rw [List.length_take]; omega)⟩
theorem Lex.good {l : List UInt8} {i : Nat} {ts : List (Tok × Nat)} {e ea : Nat} (h : Lex l i ts e ea) : i ≤ l.length → ts.length + i ≤ l.length ∧ ∀ x ∈ ts, GoodTok x.1 l.length := by
  induction h with
  | done h => intro hi; exact ⟨by simpa using hi, fun x hx => (by cases hx)⟩
  | bad h1 h2 => intro hi; exact ⟨by simpa using hi, fun x hx => (by cases hx)⟩
  | @gap i ts e ea h1 h2 h3 h ih =>
    intro hi
    have h0 : 0 < (l.drop i).length := by rw [List.length_drop]; omega
    have hs := lfirst_size h0 h2
    rw [List.length_drop] at hs
    obtain ⟨a1, a2⟩ := ih (by omega)
    exact ⟨by omega, a2⟩
  | @tok i ts e ea h1 h2 h3 h ih =>
    intro hi
    have h0 : 0 < (l.drop i).length := by rw [List.length_drop]; omega
    have hs := lfirst_size h0 h2
    rw [List.length_drop] at hs
    obtain ⟨a1, a2⟩ := ih (by omega)
    refine ⟨by simp only [List.length_cons]; omega, fun x hx => ?_⟩
    rcases List.mem_cons.1 hx with rfl | hx
    · obtain ⟨k1, k2, k3, k4, k5, k6⟩ := lfirst_good h0 h2 h3
      exact ⟨k1, k2, k3, k4, k5, Nat.le_trans k6 (by rw [List.length_drop]; omega)⟩
    · exact a2 x hx
def tkOf (s : List UInt8) (x : Tok × Nat) : Tk := (x.1, (placeAt s x.2).1, (placeAt s x.2).2)
def tksOf (s : List UInt8) (ts : List (Tok × Nat)) : List Tk := ts.map (tkOf s)
theorem ws_ne : ∀ t ∈ ws, t ≠ [] := by decide
theorem ws_kind3 : ∀ t ∈ ws, kindT t ≠ 3 := by decide
theorem ws_let : ∀ t ∈ ws, lxLet (t.headD 0) = true → kindT t = 1 := by decide
theorem ws_fig : ∀ t ∈ ws, lxFig (t.headD 0) = false := by decide
theorem ws_sign : ∀ t ∈ ws, lxSign (t.headD 0) = true → kindT t = 4 := by decide
theorem tksOf_ok {s : List UInt8} (hs : s.length ≤ 4000) {ts : List (Tok × Nat)} {e ea : Nat} (h : Lex s 0 ts e ea) : PTk (tksOf s ts) := by
  obtain ⟨hl, hg⟩ := h.good (Nat.zero_le _)
  have hlen : (tksOf s ts).length = ts.length := by simp [tksOf]
  have hat : ∀ p, (p < ts.length ∧ (tksOf s ts)[p]? = some (tkAt (tksOf s ts) p) ∧ GoodTok (tkAt (tksOf s ts) p).1 s.length) ∨ (tkAt (tksOf s ts) p = tk0 ∧ (tksOf s ts)[p]? = none) := fun p => by
    rcases Nat.lt_or_ge p ts.length with hp | hp
    · refine .inl ⟨hp, tkAt_lt (by rw [hlen]; exact hp), ?_⟩
      have h1 := tkAt_lt (l := tksOf s ts) (p := p) (by rw [hlen]; exact hp)
      unfold tksOf at h1
      rw [List.getElem?_map, List.getElem?_eq_getElem hp] at h1
      have h2 : tkOf s ts[p] = tkAt (List.map (tkOf s) ts) p := Option.some.inj h1
      unfold tksOf
      rw [← h2]
      exact hg _ (List.getElem_mem hp)
    · refine .inr ⟨?_, List.getElem?_eq_none (by rw [hlen]; exact hp)⟩
      unfold tkAt
      rw [List.getD_eq_getElem?_getD, List.getElem?_eq_none (by rw [hlen]; exact hp)]
      rfl
  refine ⟨⟨by rw [hlen]; omega, fun p => ?_, fun p => ?_⟩, fun p t ht => ?_, fun p hk => ?_⟩
  · rcases hat p with ⟨_, _, h⟩ | ⟨h, _⟩
    · have := h.len
      omega
    · rw [h]; decide
  · rcases hat p with ⟨_, _, h⟩ | ⟨h, _⟩
    · have := h.num
      omega
    · rw [h]; decide
  · have hne := ws_ne t ht
    unfold tkIs
    rcases hat p with ⟨_, h1, h⟩ | ⟨h, h1⟩
    · rw [h1]
      generalize tkAt (tksOf s ts) p = x at h
      by_cases hx : x.1.t = t
      · rcases h.kind with hk | hk | hk | hk
        · obtain ⟨c, cs, hc, hb⟩ := h.one hk
          have : kindT t = 1 := ws_let t ht (by rw [← hx, hc]; exact hb)
          simp [hk, hx, this]
        · obtain ⟨c, cs, hc, hb⟩ := h.two hk
          have := ws_fig t ht
          rw [← hx, hc] at this
          simp only [List.headD_cons] at this
          rw [hb] at this
          cases this
        · have := ws_kind3 t ht
          simp [hk, Ne.symm this]
        · obtain ⟨c, hc, hb⟩ := h.four hk
          have : kindT t = 4 := ws_sign t ht (by rw [← hx, hc]; exact hb)
          simp [hk, hx, this]
      · simp [hx, hne]
    · rw [h1, h]
      simp only [Bool.not_false, Bool.or_eq_true, Bool.not_eq_true', decide_eq_false_iff_not]
      exact .inr (Ne.symm hne)
  · rcases hat p with ⟨_, _, h⟩ | ⟨h, _⟩
    · obtain ⟨c, cs, hc, _⟩ := h.one hk
      rw [hc]
      simp
    · rw [h] at hk
      cases hk
end Go.Proofs.YtekeanikgcpijaaDoor
namespace Go.Proofs.YtekeanikgcpijaaDoor
open Go.RowKit Go.Extern.Stop Go.Stop Go.Extern
abbrev tE : TypeId := 147
end Go.Proofs.YtekeanikgcpijaaDoor
namespace Go.Proofs.YtekeanikgcpijaaDoor
open Go.RowKit Go.ChangeShapes
abbrev errV (A : Nat → Addr) (i : Nat) : Value := .iface tE (.pointer (some (A i)))
end Go.Proofs.YtekeanikgcpijaaDoor
namespace Go.Proofs.YtekeanikgcpijaaDoor
open Go.RowKit
def errOf (A : Nat → Addr) : Nat → Value
  | 0 => .nilIface
  | b + 1 => errV A b
theorem neq_errV (A : Nat → Addr) (b : Nat) (u : World) : (binOp .neq 30 (errV A b) .nilIface).run Tryd.prog u = .ok (.bool true) u := run_neq_held_nil (P := Tryd.prog) u 30 tE (.pointer (some (A b))) (by kernel_rfl)
end Go.Proofs.YtekeanikgcpijaaDoor
namespace Go.Proofs.YtekeanikgcpijaaDoor
open Go.RowKit
theorem results_row1 {fn : Func} {p u : Tmp} {ty : TypeId} (h : fn.results = #[.cell p ty, .tmp u]) (tmps : Array Value) (w : World) (g : Nat) (t : TypeId) (cs : List Value) (fs : Array Field)
    (hp : tmps.getD p undef = .pointer (some ⟨g, 0, none⟩)) (hg : Blk w g t cs)
    (hu : Tryd.prog.underlying ty = some (.struct fs)) (hi : (Tryd.prog.info? ty).map (·.size) = some cs.toArray.size) :
    (results fn tmps).run Tryd.prog w = .ok (.tuple #[.agg cs.toArray, tmps.getD u undef]) w := by
  have hp' : tmps[p]?.getD undef = .pointer (some ⟨g, 0, none⟩) := by simpa using hp
  simp [results, h, hp', asAddr, run_loadVar_row w g t ty cs.toArray (0, 0) (.struct fs) hg hu rfl hi]
theorem results_row2 {fn : Func} {p u v : Tmp} {ty : TypeId} (h : fn.results = #[.cell p ty, .tmp u, .tmp v]) (tmps : Array Value) (w : World) (g : Nat) (t : TypeId) (cs : List Value) (fs : Array Field)
    (hp : tmps.getD p undef = .pointer (some ⟨g, 0, none⟩)) (hg : Blk w g t cs)
    (hu : Tryd.prog.underlying ty = some (.struct fs)) (hi : (Tryd.prog.info? ty).map (·.size) = some cs.toArray.size) :
    (results fn tmps).run Tryd.prog w = .ok (.tuple #[.agg cs.toArray, tmps.getD u undef, tmps.getD v undef]) w := by
  have hp' : tmps[p]?.getD undef = .pointer (some ⟨g, 0, none⟩) := by simpa using hp
  simp [results, h, hp', asAddr, run_loadVar_row w g t ty cs.toArray (0, 0) (.struct fs) hg hu rfl hi]
end Go.Proofs.YtekeanikgcpijaaDoor
namespace Go.Proofs.YtekeanikgcpijaaDoor
open Go.RowKit Go.Extern.Stop Go.Stop Go.Extern
abbrev tFlt : TypeId := 63
end Go.Proofs.YtekeanikgcpijaaDoor
namespace Go.Proofs.YtekeanikgcpijaaDoor
open Go.RowKit
abbrev Ans (v : Value) (w : World) (e : Ending) (w' : World) : Prop := e = .returned v ∧ w' = w
theorem byte_eq (b c : UInt8) : (b == c) = decide ((b.toNat : Int) = (c.toNat : Int)) := by
  by_cases h : b = c
  · simp [h]
  · have : ¬ (b.toNat : Int) = (c.toNat : Int) := fun e => h (UInt8.toNat_inj.1 (by omega))
    simp [h, this]
set_option maxRecDepth 100000 in
theorem isGap_any (w : World) (b : UInt8) : Calls Tryd.prog 37 #[.int .u8 (b.toNat : Int)] w (Ans (.bool (lxGap b)) w) := by
  have e : lxGap b = (decide ((b.toNat : Int) = 32) || decide ((b.toNat : Int) = 9) || decide ((b.toNat : Int) = 13) || decide ((b.toNat : Int) = 10)) := by
    simp only [lxGap, byte_eq]; rfl
  rw [e]
  clear e
  generalize (b.toNat : Int) = B
  go_enter Tryd.func37, Tryd.ntmps37
  go_wp2
  all_goals (go_ret; refine ⟨congrArg (fun x => Ending.returned (Value.bool x)) ?_, rfl⟩; rw [Bool.eq_iff_iff] <;> first | grind | (simp; done) | (simp; omega))
set_option maxRecDepth 100000 in
theorem isQuote_any (w : World) (b : UInt8) : Calls Tryd.prog 45 #[.int .u8 (b.toNat : Int)] w (Ans (.bool (lxQuote b)) w) := by
  have e : lxQuote b = (decide ((b.toNat : Int) = 34) || decide ((b.toNat : Int) = 39)) := by
    simp only [lxQuote, byte_eq]; rfl
  rw [e]
  clear e
  generalize (b.toNat : Int) = B
  go_enter Tryd.func45, Tryd.ntmps45
  go_wp2
  all_goals (go_ret; refine ⟨congrArg (fun x => Ending.returned (Value.bool x)) ?_, rfl⟩; rw [Bool.eq_iff_iff] <;> first | grind | (simp; done) | (simp; omega))
set_option maxRecDepth 100000 in
theorem isFigure_any (w : World) (b : UInt8) : Calls Tryd.prog 44 #[.int .u8 (b.toNat : Int)] w (Ans (.bool (lxFig b)) w) := by
  have e : lxFig b = decide (48 ≤ (b.toNat : Int) ∧ (b.toNat : Int) ≤ 57) := by
    simp only [lxFig]; exact decide_eq_decide.2 (by omega)
  rw [e]
  clear e
  generalize (b.toNat : Int) = B
  go_enter Tryd.func44, Tryd.ntmps44
  go_wp2
  all_goals (go_ret; refine ⟨congrArg (fun x => Ending.returned (Value.bool x)) ?_, rfl⟩; rw [Bool.eq_iff_iff] <;> first | grind | (simp; done) | (simp; omega))
set_option maxRecDepth 100000 in
theorem beginsWord_any (w : World) (b : UInt8) : Calls Tryd.prog 42 #[.int .u8 (b.toNat : Int)] w (Ans (.bool (lxLet b)) w) := by
  have e : lxLet b = (decide (97 ≤ (b.toNat : Int) ∧ (b.toNat : Int) ≤ 122) || decide (65 ≤ (b.toNat : Int) ∧ (b.toNat : Int) ≤ 90) || decide ((b.toNat : Int) = 95)) := by
    unfold lxLet; rw [byte_eq, show ((95 : UInt8).toNat : Int) = 95 from rfl, Bool.eq_iff_iff]; simp only [Bool.or_eq_true, decide_eq_true_eq]; omega
  rw [e]
  clear e
  generalize (b.toNat : Int) = B
  go_enter Tryd.func42, Tryd.ntmps42
  go_wp2
  all_goals (go_ret; refine ⟨congrArg (fun x => Ending.returned (Value.bool x)) ?_, rfl⟩; rw [Bool.eq_iff_iff] <;> first | grind | (simp; done) | (simp; omega))
set_option maxRecDepth 100000 in
theorem digit_any (w : World) (b : UInt8) : Calls Tryd.prog 61 #[.int .u8 (b.toNat : Int)] w (Ans (.int .i64 (ldig b : Int)) w) := by
  have hB := b.toNat_lt
  unfold ldig
  generalize b.toNat = B at *
  go_enter Tryd.func61, Tryd.ntmps61
  go_wp2
  all_goals (go_ret; refine ⟨congrArg (fun x => Ending.returned (Value.int .i64 x)) ?_, rfl⟩; (repeat' split) <;> (try simp) <;> omega)
set_option maxRecDepth 100000 in
theorem inWord_any (w : World) (b : UInt8) : Calls Tryd.prog 43 #[.int .u8 (b.toNat : Int)] w (Ans (.bool (lxIn b)) w) := by
  have H1 := Lib.hid (beginsWord_any w b)
  have H2 := Lib.hid (isFigure_any w b)
  have e : lxIn b = (lxLet b || lxFig b) := rfl
  rw [e]
  clear e
  generalize lxLet b = x at *
  generalize lxFig b = y at *
  go_enter Tryd.func43, Tryd.ntmps43
  go_wp2_with (first | (go_at_call 42; refine H1.out.mono ?_; rintro e w' ⟨rfl, rfl⟩) | (go_at_call 44; refine H2.out.mono ?_; rintro e w' ⟨rfl, rfl⟩))
  all_goals (go_ret; refine ⟨congrArg (fun x => Ending.returned (Value.bool x)) ?_, rfl⟩; simp_all)
end Go.Proofs.YtekeanikgcpijaaDoor
namespace Go.Proofs.YtekeanikgcpijaaDoor
open Go.RowKit
abbrev Qui (v : Value) (w : World) (e : Ending) (w' : World) : Prop := e = .returned v ∧ ∃ n, w' = w.drewN n
theorem run_not (x : Bool) (w : World) : (Op.unary .not (.bool x)).run Tryd.prog w = .ok (.bool (!x)) w := rfl
theorem lspan_at {p : UInt8 → Bool} {l : List UInt8} {j : Nat} (hj : j ≤ l.length) (h : ∀ (i : Nat) b, i < j → l[i]? = some b → p b = true) (hs : ∀ b, l[j]? = some b → p b = false) : (lspan p l : Int) = j := by
  rw [lspan_eq hj h hs]
set_option maxRecDepth 100000 in
theorem span_fn (w : World) (l : List UInt8) (p : UInt8 → Bool) (k : FuncId) (hl : l.length ≤ 140737488351232) (hen : ∀ (args : Array Value) (u : World), (callFunc k args).run Tryd.prog u = .ok (.enter k args) u) (hk : ∀ (b : UInt8) (m : Nat), Calls Tryd.prog k #[.int .u8 (b.toNat : Int)] (w.drewN m) (Qui (.bool (p b)) w)) :
    Calls Tryd.prog 38 #[.string (str l), .func (.func k) #[] #[]] w (Qui (.int .i64 (lspan p l : Int)) w) := by
  have hz : (str l).size = l.length := strSize l
  have HK := Lib.hid hk
  clear hk
  go_enter Tryd.func38, Tryd.ntmps38
  go_wp2_with fail
  go_loopg [8] l.length (fun g s8 wx => ∃ j : Nat, j + g = l.length ∧ s8 = .int .i64 (j : Int) ∧ (∃ n, wx = w.drewN n) ∧ Hid (∀ (i : Nat) b, i < j → l[i]? = some b → p b = true))
  case atStart => exact ⟨0, by omega, rfl, ⟨0, rfl⟩, Lib.hid (fun _ _ h => absurd h (Nat.not_lt_zero _))⟩
  case round =>
    obtain ⟨j, hj, rfl, ⟨n0, rfl⟩, HJ⟩ := hrel
    cases gk with
    | zero =>
      obtain rfl : j = l.length := by omega
      have hlt : ¬ ((l.length : Int) < (l.length : Int)) := by omega
      go_wp2_with fail
      go_ret
      exact ⟨by rw [lspan_at (Nat.le_refl _) HJ.out (fun b hb => by simp at hb)]; rfl, n0, rfl⟩
    | succ g =>
      have hlt : (j : Int) < (l.length : Int) := by omega
      have hjl : j < l.length := by omega
      have hix := str_index l j hjl
      obtain ⟨b, hb⟩ : ∃ b, l[j] = b := ⟨_, rfl⟩
      rw [hb] at hix
      have hb' : l[j]? = some b := by rw [List.getElem?_eq_getElem hjl, hb]
      have HB := Lib.hid hb'
      clear hb hb'
      have hnot := run_not
      go_wp2_with fail
      refine (HK.out b n0).mono ?_
      rintro e w' ⟨rfl, n1, rfl⟩
      cases hp : p b
      · go_wp2_with fail
        go_ret
        exact ⟨by rw [lspan_at (by omega) HJ.out (fun c hc => by rw [HB.out] at hc; cases hc; exact hp)]; rfl, n1, rfl⟩
      · have HP := Lib.hid hp
        clear hp
        go_wp2_with fail
        go_roundg g
        case measure => omega
        case rel =>
          refine ⟨j + 1, by omega, by go_num, ⟨n1, rfl⟩, Lib.hid (fun i c hi hc => ?_)⟩
          by_cases e : i = j
          · subst e; rw [HB.out] at hc; cases hc; exact HP.out
          · exact HJ.out i c (by omega) hc
set_option maxRecDepth 100000 in
theorem span_cap (w : World) (l : List UInt8) (p : UInt8 → Bool) (k : FuncId) (c : Value) (hl : l.length ≤ 140737488351232) (hen : ∀ (args : Array Value) (u : World), (callFunc k args).run Tryd.prog u = .ok (.enter k args) u) (hk : ∀ (b : UInt8) (m : Nat), Calls Tryd.prog k #[.int .u8 (b.toNat : Int), c] (w.drewN m) (Qui (.bool (p b)) w)) :
    Calls Tryd.prog 38 #[.string (str l), .func (.func k) #[] #[c]] w (Qui (.int .i64 (lspan p l : Int)) w) := by
  have hz : (str l).size = l.length := strSize l
  have HK := Lib.hid hk
  clear hk
  go_enter Tryd.func38, Tryd.ntmps38
  go_wp2_with fail
  go_loopg [8] l.length (fun g s8 wx => ∃ j : Nat, j + g = l.length ∧ s8 = .int .i64 (j : Int) ∧ (∃ n, wx = w.drewN n) ∧ Hid (∀ (i : Nat) b, i < j → l[i]? = some b → p b = true))
  case atStart => exact ⟨0, by omega, rfl, ⟨0, rfl⟩, Lib.hid (fun _ _ h => absurd h (Nat.not_lt_zero _))⟩
  case round =>
    obtain ⟨j, hj, rfl, ⟨n0, rfl⟩, HJ⟩ := hrel
    cases gk with
    | zero =>
      obtain rfl : j = l.length := by omega
      have hlt : ¬ ((l.length : Int) < (l.length : Int)) := by omega
      go_wp2_with fail
      go_ret
      exact ⟨by rw [lspan_at (Nat.le_refl _) HJ.out (fun b hb => by simp at hb)]; rfl, n0, rfl⟩
    | succ g =>
      have hlt : (j : Int) < (l.length : Int) := by omega
      have hjl : j < l.length := by omega
      have hix := str_index l j hjl
      obtain ⟨b, hb⟩ : ∃ b, l[j] = b := ⟨_, rfl⟩
      rw [hb] at hix
      have hb' : l[j]? = some b := by rw [List.getElem?_eq_getElem hjl, hb]
      have HB := Lib.hid hb'
      clear hb hb'
      have hnot := run_not
      go_wp2_with fail
      refine (HK.out b n0).mono ?_
      rintro e w' ⟨rfl, n1, rfl⟩
      cases hp : p b
      · go_wp2_with fail
        go_ret
        exact ⟨by rw [lspan_at (by omega) HJ.out (fun c hc => by rw [HB.out] at hc; cases hc; exact hp)]; rfl, n1, rfl⟩
      · have HP := Lib.hid hp
        clear hp
        go_wp2_with fail
        go_roundg g
        case measure => omega
        case rel =>
          refine ⟨j + 1, by omega, by go_num, ⟨n1, rfl⟩, Lib.hid (fun i c hi hc => ?_)⟩
          by_cases e : i = j
          · subst e; rw [HB.out] at hc; cases hc; exact HP.out
          · exact HJ.out i c (by omega) hc
end Go.Proofs.YtekeanikgcpijaaDoor
namespace Go.Proofs.YtekeanikgcpijaaDoor
open Go.RowKit Go.Extern.Stop Go.Stop Go.Extern
def Chain (w : World) (A : Nat → Addr) (k : Nat) : Nat → Value → Prop
  | 0, v => v = errV A k
  | n + 1, v => ∃ (b : Nat) (li co : Int) (v' : Value), v = .iface tFlt (.pointer (some ⟨b, 0, none⟩)) ∧ Blk w b 65 [.int .i64 li, .int .i64 co, v'] ∧ Chain w A k n v'
theorem Chain.drewN {w : World} {A : Nat → Addr} {k : Nat} : ∀ {n : Nat} {v : Value} (m : Nat), Chain w A k n v → Chain (w.drewN m) A k n v
  | 0, _, _, h => h
  | _ + 1, _, m, ⟨b, li, co, v', h1, h2, h3⟩ => ⟨b, li, co, v', h1, h2.drewN m, h3.drewN m⟩
theorem Chain.below {w w' : World} {A : Nat → Addr} {k : Nat} (hb : Below w.heap.size w w') : ∀ {n : Nat} {v : Value}, Chain w A k n v → Chain w' A k n v
  | 0, _, h => h
  | _ + 1, _, ⟨b, li, co, v', h1, h2, h3⟩ => ⟨b, li, co, v', h1, h2.kept hb, h3.below hb⟩
end Go.Proofs.YtekeanikgcpijaaDoor
