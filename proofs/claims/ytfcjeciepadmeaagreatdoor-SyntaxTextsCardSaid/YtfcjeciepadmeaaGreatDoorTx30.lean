/- Part 30 of what the last text of this claim is proved by: walks over the program, and the math behind them. Conditions: as each theorem says. -/
import Derived.Test.YtfcjeciepadmeaaGreatDoorTx29
import Derived.Test.YtfcjeciepadmeaaGreatDoorProg
import Derived.WalkKit
import Derived.LaidEql
import Derived.LaidEqlPtr
import Derived.Stop.Asserts
import Derived.RowKitTokens
import Derived.Lib.ReflectliteSlice
import Derived.Stop.LaidErr
import Derived.WideLaws
namespace Go.Proofs.YtfcjeciepadmeaaGreatDoor
open Go.RowKit
theorem sFile_syn (l : List Tk) : sFile l = match sSyn l with
 | .error e => .error e
 | .ok s =>
  match sPackage l s with
  | .error e => .error e
  | .ok (pk, u) => sParts l (l.length + 1) ⟨pk, [], []⟩ u := by
 unfold sSyn
 cases h : sWants l [wSyntax, [61]] 0 with
 | error e => exact sFile_bad h
 | ok q =>
  rw [(sFile_ok h).1]
  unfold sHeadBehind
  dsimp only
  cases ht : sText l q with
  | error e => rfl
  | ok x =>
   obtain ⟨t, r⟩ := x
   dsimp only
   by_cases hp : t = wProto3
   ·rw [if_pos hp, if_pos hp]
    cases sWant l 4 [59] r <;> rfl
   ·rw [if_neg hp, if_neg hp]
    rfl
theorem sSyn_le {l : List Tk} {q : Nat} (h : sSyn l = .ok q) : q ≤ l.length := by
 unfold sSyn at h
 split at h
 ·cases h
 split at h
 ·cases h
 ·split at h
  ·have := sWant_ok h
   omega
  ·cases h
abbrev filZ : List Dat := [.cell (.string ⟨#[]⟩), .cell (.slice none 0 0), .cell (.slice none 0 0)]
abbrev zX : Bx := ⟨26, [.is (.string ⟨#[]⟩), .is (.slice none 0 0), .is (.slice none 0 0)]⟩
def FilE (l : List Tk) (E8 E9 : Er) (r : Ans8 Fil) (y : IV) (B1 : BL) (R1 : RL) : Prop :=
 (∃ a b z, r = .error (a, b) ∧ y = .tup [.many filZ, fltP l a (erv E8 E9 b)] ∧ B1 = pB l z ∧ R1 = []) ∨ (∃ f z, r = .ok f ∧ y = .tup [.many f.dats, nilP] ∧ B1 = pB l z ∧ R1 = [])
theorem FilE.tidy {l : List Tk} {E8 E9 : Er} {r : Ans8 Fil} {q : Nat} (y : IV) (B1 : BL) (R1 : RL) (h : FilE l E8 E9 r y B1 R1) : Tidy (pB l q) [] y B1 R1 := by
 rcases h with ⟨a, b, z, _, rfl, rfl, rfl⟩ | ⟨x, z, _, rfl, rfl, rfl⟩ <;> exact ⟨rfl, rfl, rfl, rfl⟩
set_option maxRecDepth 100000 in
set_option maxHeartbeats 2000000 in
theorem file_g (E8 E9 : Er) (l : List Tk) (hl : PTk l) : EG Tryz.prog (gE E8 E9) 27 [.box 1 0] (pB l 0) [] (FilE l E8 E9 (sFile l)) := by
 refine eg_enter 54 Tryz.func27 rfl rfl rfl fun w D bor mb => ?_
 try refine e_fl ?_
 have hll := hl.len
 have hf := sFile_syn l
 refine e_list ?_
 refine e_alloc 2 [.is (.string ⟨#[]⟩), .is (.slice none 0 0), .is (.slice none 0 0)] rfl rfl rfl rfl zr_26 (fun w D M V => ⟨rfl, fun j x v h1 h2 => cfit_is _ h1 h2 rfl⟩) rfl rfl rfl rfl ?_
 refine l_as ?_
 refine e_nil ?_
 try refine e_fl ?_
 refine e_list ?_
 refine e_alloc 7 [.is (.string ⟨#[]⟩), .is (.slice none 0 0), .is (.slice none 0 0)] rfl rfl rfl rfl zr_26 (fun w D M V => ⟨rfl, fun j x v h1 h2 => cfit_is _ h1 h2 rfl⟩) rfl rfl rfl rfl ?_
 refine e_nil ?_
 try refine e_fl ?_
 refine e_list ?_
 refine l_mv ?_
 refine e_calli rfl rfl rfl rfl (by kernel_rfl) (syntax_g E8 E9 l hl) ⟨rfl, trivial⟩ trivial ⟨(kn rfl), trivial⟩ (PE.tidy) ?_
 rintro _ _ _ (⟨a, b, z, he, rfl, rfl, rfl⟩ | ⟨r, ho, rfl, rfl, rfl⟩)
 ·refine l_as ?_
  refine e_nil ?_
  try refine e_fl ?_
  refine e_plain (w_mv rfl rfl rfl rfl rfl (w_op rfl rfl rfl (s_err_neq rfl (kn rfl) rfl ifc_28) .nil)) ?_
  try refine e_fl ?_
  refine c_yes ?_
  try refine e_fl ?_
  refine e_list ?_
  refine l_op (s_build (ds := [_, _, _]) [] rfl trivial rfl pl_26 zr_26 (fun w D => .cons (.cell _) (.cons (.cell _) (.cons (.cell _) (.nil _ _)))) rfl) ?_
  refine l_mv ?_
  refine e_storew rfl rfl rfl (kn rfl) rfl (kn rfl) rfl rfl sz_26 ?_
  refine l_as ?_
  refine e_nil ?_
  try refine e_fl ?_
  exact e_returnx (pB l z) ([]) rfl (.cell rfl rfl rfl agg_26 sz_26 rfl (.tmp (kn rfl) (.nil))) (Imp.refl _) ⟨s_b, trivial⟩ trivial (.inl ⟨a, b, z, by rw [hf, he], rfl, rfl, rfl⟩)
 rw [ho] at hf
 dsimp only at hf
 have hr := sSyn_le ho
 refine l_as ?_
 refine e_nil ?_
 try refine e_fl ?_
 refine e_plain (w_mv rfl rfl rfl rfl rfl (w_op rfl rfl rfl (s_nil_neq rfl (kn rfl) ifc_28) .nil)) ?_
 try refine e_fl ?_
 refine c_no ?_
 try refine e_fl ?_
 refine e_list ?_
 refine l_mv ?_
 refine l_op (s_buildSlice (ds := [_]) [(0, _)] rfl ⟨rfl, (kn rfl), trivial⟩ rfl sl_49 sz_9 zr_9 (fun w D => .cons (.cell _) (.nil _ _)) rfl rfl rfl rfl rfl) ?_
 refine e_calli rfl rfl rfl rfl (by kernel_rfl) (take1 _ l hl [112, 97, 99, 107, 97, 103, 101] 1 rfl (by decide) r (by omega)) ⟨rfl, trivial⟩ trivial ⟨(kn rfl), ⟨(kn rfl), trivial⟩⟩ (fun _ _ _ h => PY.tidy h.1 h.2.1 h.2.2) ?_
 rintro _ _ _ ⟨rfl, rfl, rfl⟩
 refine e_nil ?_
 try refine e_fl ?_
 refine e_cutk (ι := { i : List UInt8 × Nat // sPackage l r = .ok i ∧ i.2 ≤ l.length })
  (fun i => [(0, .box 1 0), (2, .box 2 0), (3, .is .nilIface), (4, .box 7 0)])
  (fun i => [(2, zX), (7, ⟨26, [.is (.string (str i.1.1)), .is (.slice none 0 0), .is (.slice none 0 0)]⟩), (1, pX l i.1.2)])
  (fun _ => []) ?_ ?_
 ·refine e_cond rfl (fun hp => ?_) (fun hp => ?_)
  ·have hlt := tkIs_lt hp
   rw [hp]
   try refine e_fl ?_
   refine e_list ?_
   refine l_mv ?_
   refine e_calli rfl rfl rfl rfl (by kernel_rfl) (dots_g E8 E9 l hl (r + 1) (by omega)) ⟨rfl, trivial⟩ trivial ⟨(kn rfl), trivial⟩ (QE.tidy) ?_
   rintro _ _ _ (⟨a, b, z, s, _, he, rfl, rfl, rfl⟩ | ⟨s, z, hs, rfl, rfl, rfl⟩)
   ·have he' : sDotted l false (r + 1) = .error (a, b) := he
    refine l_mv ?_
    refine l_ex ?_
    refine l_ex ?_
    refine l_as ?_
    refine l_as ?_
    refine e_nil ?_
    try refine e_fl ?_
    refine e_plain (w_mv rfl rfl rfl rfl rfl (w_op rfl rfl rfl (s_err_neq rfl (kn rfl) rfl ifc_28) .nil)) ?_
    try refine e_fl ?_
    refine c_yes ?_
    try refine e_fl ?_
    refine e_list ?_
    refine l_op (s_build (ds := [_, _, _]) [] rfl trivial rfl pl_26 zr_26 (fun w D => .cons (.cell _) (.cons (.cell _) (.cons (.cell _) (.nil _ _)))) rfl) ?_
    refine l_mv ?_
    refine e_storew rfl rfl rfl (kn rfl) rfl (kn rfl) rfl rfl sz_26 ?_
    refine l_as ?_
    refine e_nil ?_
    try refine e_fl ?_
    exact e_returnx (pB l z) ([]) rfl (.cell rfl rfl rfl agg_26 sz_26 rfl (.tmp (kn rfl) (.nil))) (Imp.refl _) ⟨s_b, trivial⟩ trivial (.inl ⟨a, b, z, by rw [hf]; simp only [sPackage, hp, if_true, he'], rfl, rfl, rfl⟩)
   have hs' : sDotted l false (r + 1) = .ok (s, z) := hs
   have hz := sDotted_ok hs'
   refine l_mv ?_
   refine l_ex ?_
   refine l_ex ?_
   refine l_as ?_
   refine l_as ?_
   refine e_nil ?_
   try refine e_fl ?_
   refine e_plain (w_mv rfl rfl rfl rfl rfl (w_op rfl rfl rfl (s_nil_neq rfl (kn rfl) ifc_28) .nil)) ?_
   try refine e_fl ?_
   refine c_no ?_
   try refine e_fl ?_
   refine e_list ?_
   refine l_mv ?_
   refine l_op (s_faddr_box rfl (kn rfl) off_26_0) ?_
   refine e_store1 rfl rfl rfl (kn rfl) rfl (kn rfl) rfl rfl sz_9 rfl ?_
   refine e_nil ?_
   try refine e_fl ?_
   refine e_list ?_
   refine l_mv ?_
   refine l_op (s_buildSlice (ds := [_]) [(0, _)] rfl ⟨rfl, (kn rfl), trivial⟩ rfl sl_49 sz_9 zr_9 (fun w D => .cons (.cell _) (.nil _ _)) rfl rfl rfl rfl rfl) ?_
   refine e_calli rfl rfl rfl rfl (by kernel_rfl) (want1_g E8 E9 l hl 4 [59] rfl (by decide) z (by omega)) ⟨rfl, trivial⟩ trivial ⟨(kn rfl), ⟨(kn rfl), trivial⟩⟩ (PE.tidy) ?_
   rintro _ _ _ (⟨a, b, z, he, rfl, rfl, rfl⟩ | ⟨q, hw, rfl, rfl, rfl⟩)
   ·refine l_as ?_
    refine e_nil ?_
    try refine e_fl ?_
    refine e_plain (w_mv rfl rfl rfl rfl rfl (w_op rfl rfl rfl (s_err_neq rfl (kn rfl) rfl ifc_28) .nil)) ?_
    try refine e_fl ?_
    refine c_yes ?_
    try refine e_fl ?_
    refine e_list ?_
    refine l_op (s_build (ds := [_, _, _]) [] rfl trivial rfl pl_26 zr_26 (fun w D => .cons (.cell _) (.cons (.cell _) (.cons (.cell _) (.nil _ _)))) rfl) ?_
    refine l_mv ?_
    refine e_storew rfl rfl rfl (kn rfl) rfl (kn rfl) rfl rfl sz_26 ?_
    refine l_as ?_
    refine e_nil ?_
    try refine e_fl ?_
    exact e_returnx (pB l z) ([]) rfl (.cell rfl rfl rfl agg_26 sz_26 rfl (.tmp (kn rfl) (.nil))) (Imp.refl _) ⟨s_b, trivial⟩ trivial (.inl ⟨a, b, z, by rw [hf]; simp only [sPackage, hp, if_true, hs', he], rfl, rfl, rfl⟩)
   have hq := sWant_ok hw
   refine l_as ?_
   refine e_nil ?_
   try refine e_fl ?_
   refine e_plain (w_mv rfl rfl rfl rfl rfl (w_op rfl rfl rfl (s_nil_neq rfl (kn rfl) ifc_28) .nil)) ?_
   try refine e_fl ?_
   refine c_no ?_
   try refine e_fl ?_
   refine e_meet ⟨(s, q), by simp only [sPackage, hp, if_true, hs', hw], by dsimp only; omega⟩ (fun K => e_sub ⟨s_t, s_t, s_t, s_t, trivial⟩ ⟨s_b, s_b, s_b, trivial⟩ trivial)
  ·rw [hp]
   try refine e_fl ?_
   refine e_meet ⟨([], r), by simp only [sPackage, hp]; rfl, by dsimp only; omega⟩ (fun K => e_sub ⟨s_t, s_t, s_t, s_t, trivial⟩ ⟨s_b, s_b, s_b, trivial⟩ trivial)
 rintro ⟨⟨pk, u⟩, hpk, hu⟩
 dsimp only at hpk hu ⊢
 rw [hpk] at hf
 dsimp only at hf
 try refine e_fl ?_
 refine e_row_cell 7 1 400 52 9 rfl rfl rfl rfl rfl ?_
 refine e_row_cell 7 2 401 76 4 rfl rfl rfl rfl rfl ?_
 refine e_loop (ι := { i : Nat × Fil × Nat // 1 ≤ i.1 ∧ l.length + 1 ≤ i.1 + i.2.2 ∧ i.2.2 ≤ l.length ∧ i.2.1.msgs.length ≤ i.2.2 ∧ i.2.1.enums.length ≤ i.2.2 ∧ sFile l = sParts l i.1 i.2.1 i.2.2 })
  (fun i => [(0, .box 1 0), (2, .box 2 0), (3, .is .nilIface), (4, .box 7 0)])
  (fun i => [(2, zX), (7, flX i.1.2.1), (1, pX l i.1.2.2)]) (fun i => flR i.1.2.1)
  (fun i => i.1.1) ⟨(l.length + 1, ⟨pk, [], []⟩, u), by omega, by dsimp only; omega, hu, by simp, by simp, hf⟩
  (fun K => e_sub ⟨s_t, s_t, s_t, s_t, trivial⟩ ⟨s_b, s_b, s_b, trivial⟩ ⟨rfl, rfl, trivial⟩) ?_
 rintro ⟨⟨n', f, q⟩, hn1, hn, hq, hm, he, hw⟩
 dsimp only at hn1 hn hq hm he hw ⊢
 obtain ⟨n, rfl⟩ : ∃ n, n' = n + 1 := ⟨n' - 1, by omega⟩
 rw [sParts_decl] at hw
 try refine e_fl ?_
 refine e_draw mixed (by kernel_rfl) (w_mv rfl rfl rfl rfl rfl (w_op rfl rfl rfl (s_nil_box rfl (kn rfl)) (w_op rfl rfl rfl (s_faddr_box rfl (kn rfl) off_86_1) (w_op rfl rfl rfl (s_load1_box rfl (kn rfl) rfl rfl one_3) (w_mv rfl rfl rfl rfl rfl (w_op rfl rfl rfl (s_nil_box rfl (kn rfl)) (w_op rfl rfl rfl (s_faddr_box rfl (kn rfl) off_86_0) (w_op rfl rfl rfl (s_load1_box rfl (kn rfl) rfl rfl one_41) (w_op rfl rfl rfl (s_len rfl (kn rfl) sle_41) (w_op rfl rfl rfl (s_bin rfl (kn rfl) (kn rfl) v_lss) .nil)))))))))) ?_
 try refine e_fl ?_
 refine e_cond rfl (fun h => ?_) (fun h => ?_)
 ·have hlt : q < l.length := by
   have := of_decide_eq_true h
   omega
  rw [if_pos hlt] at hw
  try refine e_fl ?_
  refine e_list ?_
  refine l_mv ?_
  refine e_calli rfl rfl rfl rfl (by kernel_rfl) (declaration_g E8 E9 l hl f (by omega) (by omega) q (by omega)) ⟨rfl, rfl, trivial⟩ ⟨rfl, rfl, trivial⟩ ⟨(kn rfl), ⟨(kn rfl), trivial⟩⟩ (LE.tidy) ?_
  rintro _ _ _ (⟨a, b, z, g, he, rfl, rfl, rfl⟩ | ⟨g, z, ho, rfl, rfl, rfl⟩)
  ·refine l_as ?_
   refine e_nil ?_
   try refine e_fl ?_
   refine e_plain (w_mv rfl rfl rfl rfl rfl (w_op rfl rfl rfl (s_err_neq rfl (kn rfl) rfl ifc_28) .nil)) ?_
   try refine e_fl ?_
   refine c_yes ?_
   try refine e_fl ?_
   refine e_list ?_
   refine l_op (s_build (ds := [_, _, _]) [] rfl trivial rfl pl_26 zr_26 (fun w D => .cons (.cell _) (.cons (.cell _) (.cons (.cell _) (.nil _ _)))) rfl) ?_
   refine l_mv ?_
   refine e_storew rfl rfl rfl (kn rfl) rfl (kn rfl) rfl rfl sz_26 ?_
   refine l_as ?_
   refine e_nil ?_
   try refine e_fl ?_
   exact e_returnx (pB l z) ([]) rfl (.cell rfl rfl rfl agg_26 sz_26 rfl (.tmp (kn rfl) (.nil))) (Imp.refl _) ⟨s_b, trivial⟩ trivial (.inl ⟨a, b, z, by rw [hw, he], rfl, rfl, rfl⟩)
  rw [ho] at hw
  dsimp only at hw
  have hv := sDecl_ok ho
  refine l_as ?_
  refine e_nil ?_
  try refine e_fl ?_
  refine e_plain (w_mv rfl rfl rfl rfl rfl (w_op rfl rfl rfl (s_nil_neq rfl (kn rfl) ifc_28) .nil)) ?_
  try refine e_fl ?_
  refine c_no ?_
  try refine e_fl ?_
  refine e_again ⟨(n, g, z), by omega, by dsimp only; omega, by dsimp only; omega, by dsimp only; omega, by dsimp only; omega, hw⟩ (by dsimp only; omega) (fun K => e_sub ⟨s_t, s_t, s_t, s_t, trivial⟩ ⟨s_b, s_b, s_b, trivial⟩ ⟨rfl, rfl, trivial⟩)
 have hlt : ¬ q < l.length := by
  have := of_decide_eq_false h
  omega
 rw [if_neg hlt] at hw
 try refine e_fl ?_
 refine e_freeze_cell 7 1 400 rfl rfl rfl rfl rfl ?_
 refine e_freeze_cell 7 2 401 rfl rfl rfl rfl rfl ?_
 refine e_list ?_
 refine l_op (s_loadn_box (ds := [_, _, _]) 3 rfl (kn rfl) rfl rfl agg_26 sz_26 rfl) ?_
 refine e_storew rfl rfl rfl (kn rfl) rfl (kn rfl) rfl rfl sz_26 ?_
 refine l_as ?_
 refine e_nil ?_
 try refine e_fl ?_
 exact e_returnx (pB l q) ([]) rfl (.cell rfl rfl rfl agg_26 sz_26 rfl (.tmp (kn rfl) (.nil))) (Imp.refl _) ⟨s_b, trivial⟩ trivial (.inr ⟨f, q, hw, rfl, rfl, rfl⟩)
end Go.Proofs.YtfcjeciepadmeaaGreatDoor
namespace Go.Proofs.YtfcjeciepadmeaaGreatDoor
open Go.RowKit
def ParY (l : List Tk) (E8 E9 : Er) (r : Ans8 Fil) (y : IV) : Prop := (∃ a b, r = .error (a, b) ∧ y = .tup [.many filZ, fltP l a (erv E8 E9 b)]) ∨ (∃ f, r = .ok f ∧ y = .tup [.many f.dats, nilP])
set_option maxRecDepth 100000 in
theorem par_y (E8 E9 : Er) (l : List Tk) (hl : PTk l) : EFx Tryz.prog (gE E8 E9) 12 [tksP l] (ParY l E8 E9 (sFile l)) := by
 refine ef_enter 10 Tryz.func12 rfl rfl rfl fun w D => ?_
 try refine e_fl ?_
 refine e_list ?_
 refine e_alloc 2 [.is (.string ⟨#[]⟩), .is (.slice none 0 0), .is (.slice none 0 0)] rfl rfl rfl rfl zr_26 (fun w D M V => ⟨rfl, fun j x v h1 h2 => cfit_is _ h1 h2 rfl⟩) rfl rfl rfl rfl ?_
 refine l_as ?_
 refine e_nil ?_
 try refine e_fl ?_
 refine e_list ?_
 refine l_mv ?_
 refine l_op (s_build (ds := [_, _]) [(0, _)] rfl ⟨rfl, (kn rfl), trivial⟩ rfl pl_86 zr_86 (fun w D => .cons (.cell _) (.cons (.cell _) (.nil _ _))) rfl) ?_
 refine e_alloc 1 [.is (.slice none 0 0), .is (.int .i64 0)] rfl rfl rfl rfl zr_86 (fun w D M V => ⟨rfl, fun j x v h1 h2 => cfit_is _ h1 h2 rfl⟩) rfl rfl rfl rfl ?_
 refine e_storew rfl rfl rfl (kn rfl) rfl (kn rfl) rfl rfl sz_86 ?_
 refine e_nil ?_
 try refine e_fl ?_
 refine e_list ?_
 refine e_calli rfl rfl rfl rfl (by kernel_rfl) (file_g E8 E9 l hl) ⟨rfl, trivial⟩ trivial ⟨(kn rfl), trivial⟩ (FilE.tidy) ?_
 rintro _ _ _ (⟨a, b, z, he, rfl, rfl, rfl⟩ | ⟨f, z, ho, rfl, rfl, rfl⟩)
 ·refine l_ex ?_
  refine l_ex ?_
  refine e_storew rfl rfl rfl (kn rfl) rfl (kn rfl) rfl rfl sz_26 ?_
  refine l_as ?_
  refine e_nil ?_
  try refine e_fl ?_
  exact e_return rfl rfl (.cell rfl rfl rfl agg_26 sz_26 rfl (.tmp (kn rfl) (.nil))) (Imp.refl _) (.inl ⟨a, b, he, rfl⟩)
 ·refine l_ex ?_
  refine l_ex ?_
  refine e_storew rfl rfl rfl (kn rfl) rfl (kn rfl) rfl rfl sz_26 ?_
  refine l_as ?_
  refine e_nil ?_
  try refine e_fl ?_
  exact e_return rfl rfl (.cell rfl rfl rfl agg_26 sz_26 rfl (.tmp (kn rfl) (.nil))) (Imp.refl _) (.inr ⟨f, ho, rfl⟩)
end Go.Proofs.YtfcjeciepadmeaaGreatDoor
namespace Go.Proofs.YtfcjeciepadmeaaGreatDoor
open Go.RowKit
section
variable {P : Program} {cx : Cx} {T : TL} {B : BL} {R : RL} {M : Nat → Nat} {V : Nat → Value} {o : Oper}
theorem EFx.more {gls gls' : List (Nat × List Value)} {f : FuncId} {ps : List Part} {Y : IV → Prop} (h : EFx P gls f ps Y) (hs : ∀ x, x ∈ gls → x ∈ gls') : EFx P gls' f ps Y := fun w D vs hD hG hp => h w D vs hD (fun g cs hg => hG g cs (hs _ hg)) hp
theorem call_enter {gls : List (Nat × List Value)} {f : FuncId} {fn : Func} {c : Code} {ps : List Part} {Y : IV → Prop} (n : Nat) (hf : P.funcs[f]? = some fn) (hb : fn.body = some c) (hn : fn.ntmps = n) (hle : Nat.ble ps.length n = true) (w : World) (D : Nat → Prop) (vs : List Value) (hD : ∀ g, D g → g < w.heap.size) (hG : GlOK gls w) (hp : PsFit w D ps vs)
    (h : E ⟨w, D, fun _ => False, n, gls, [], fun _ => 0⟩ (pslots 0 ps) [] [] (c.wp P (bodyPost P fn (Gives w D Y)))) : Calls P f vs.toArray w (Gives w D Y) := by
  refine calls_of_wp hf hb ?_
  have hl := hp.length
  have hle' := Nat.le_of_ble_eq_true hle
  refine h (fun _ => 0) (fun _ => undef) _ w ⟨by simp [hn]; omega, rfl, ⟨Bex.refl _ _, fun g hg => ⟨hD g hg, fun h => h⟩, fun _ h => h.elim, fun g cs hg => ⟨⟨(hG g cs hg).1, fun h => h⟩, (hG g cs hg).2⟩, fun b x hx => (by cases hx), fun r x hx => (by cases hx), fun r x g hx => (by cases hx), fun b hb => (by cases hb), fun b c x y hx => (by cases hx), fun b r x y g hx => (by cases hx), fun r q x y g hx => (by cases hx)⟩, fun t x hx => ?_⟩
  obtain ⟨p, h1, rfl, _⟩ := pslots_get hx
  obtain ⟨v, h2, h3⟩ := hp.get h1
  rw [Nat.sub_zero] at h2
  have hv : (vs.toArray ++ Array.replicate (fn.ntmps - vs.toArray.size) undef).getD t undef = v := by
    have hlt : t < vs.length := by
      rcases Nat.lt_or_ge t vs.length with h | h
      · exact h
      · rw [List.getElem?_eq_none h] at h2; cases h2
    have h4 : vs[t] = v := by
      rw [List.getElem?_eq_getElem hlt] at h2
      exact Option.some.inj h2
    simp [Array.getElem?_append, hlt, h4]
  show VR _ _ _ _ _ ((vs.toArray ++ Array.replicate (fn.ntmps - vs.toArray.size) undef).getD t undef)
  rw [hv]
  exact PFit.stay (D := D) (Keeps.refl _ _) (fun g hg => Or.inl hg) h3
def EFw (P : Program) (cx : Cx) (f : FuncId) (ps : List Part) (y : IV) : Prop := ∀ w, Bex cx.bor cx.w0 w → ∀ (D : Nat → Prop) (vs : List Value), (∀ g, D g → g < w.heap.size) → GlOK cx.gl w → PsFit w D ps vs → Calls P f vs.toArray w (Gives w D (· = y))
theorem s_callw {f : FuncId} {xs : List Operand} {ts : Array TypeId} {ps : List Part} {y : IV} (ho : o.op = .call { callee := .value (.func f), args := xs.toArray, argTypes := ts }) (hc : callable P f = true) (hf : EFw P cx f ps y) (hx : KnA T xs ps) : LStep P cx B R o T y := fun M V w a hh ht => by
  have hrun : (execOp a.eval o).run P w = .ok (.enter f (xs.map a.eval).toArray) w := by
    have he : a.eval (.func f) = .func (.func f) #[] #[] := rfl
    simp [execOp, ho, resolve, he, Deferred.ofValue, invoke, run_callable hc]
  have hk : ∀ x z, x ∈ xs → Kn T x z → VR w (Dc cx B R M V w) M V z (a.eval x) := fun x z hm hkx => hkx w _ M V a fun t z' e hz => ht t z' (by
    subst e
    rw [ho]
    simp [Op.operands, Call.operands]
    exact hm) hz
  rw [hrun]
  refine ⟨rfl, (hf w hh.below (Dc cx B R M V w) _ (fun _ hg => hh.dlt hg) hh.glok (hx.fit hk)).mono fun _ _ ⟨v, y', h1, h2, h3, h4⟩ => ⟨v, h1, h3, ?_⟩⟩
  subst h2
  exact (h4 M V).stay (Keeps.refl _ _) fun _ hg => hh.new hg h3.size
end
end Go.Proofs.YtfcjeciepadmeaaGreatDoor
namespace Go.Proofs.YtfcjeciepadmeaaGreatDoor
structure GoodTok (x : Tok) (n : Nat) : Prop where
  one : x.k = 1 → ∃ c cs, x.t = c :: cs ∧ lxLet c = true
  two : x.k = 2 → ∃ c cs, x.t = c :: cs ∧ lxFig c = true
  four : x.k = 4 → ∃ c, x.t = [c] ∧ lxSign c = true
  kind : x.k = 1 ∨ x.k = 2 ∨ x.k = 3 ∨ x.k = 4
  num : x.n ≤ 2147483647
  len : x.t.length ≤ n
theorem lnb_num (b : Nat) (ds : List UInt8) : (lnb b ds).1 ≤ 2147483647 := by
  unfold lnb
  split
  · simp
  split
  · simp
  · dsimp only
    omega
theorem lnum_num (l : List UInt8) : (lnum l).1 ≤ 2147483647 := by
  unfold lnum
  split
  · exact lnb_num _ _
  split <;> exact lnb_num _ _
theorem take_head {l : List UInt8} {n : Nat} (h0 : 0 < l.length) (hn : 0 < n) : ∃ cs, l.take n = l.headD 0 :: cs := by
  cases l with
  | nil => simp at h0
  | cons b l =>
    obtain ⟨m, rfl⟩ : ∃ m, n = m + 1 := ⟨n - 1, by omega⟩
    exact ⟨l.take m, rfl⟩
theorem ltoken_good {k : Nat} {p : List UInt8} (h : (ltoken k p).2 = 0) (hk : k = 1 ∨ k = 2 ∨ k = 3 ∨ k = 4) (h1 : k = 1 → ∃ c cs, p = c :: cs ∧ lxLet c = true) (h2 : k = 2 → ∃ c cs, p = c :: cs ∧ lxFig c = true) (h4 : k = 4 → ∃ c, p = [c] ∧ lxSign c = true) : GoodTok (ltoken k p).1 p.length := by
  rcases hk with rfl | rfl | rfl | rfl
  · unfold ltoken at h ⊢
    rw [if_neg (by decide), if_pos rfl] at h ⊢
    split
    · rename_i hl
      rw [if_pos hl] at h
      cases h
    · exact ⟨fun _ => h1 rfl, fun h => (by cases h), fun h => (by cases h), .inl rfl, by simp, Nat.le_refl _⟩
  · unfold ltoken at h ⊢
    rw [if_neg (by decide), if_neg (by decide), if_pos rfl] at h ⊢
    split
    · exact ⟨fun h => (by cases h), fun _ => h2 rfl, fun h => (by cases h), .inr (.inl rfl), lnum_num _, Nat.le_refl _⟩
    · rename_i hl
      rw [if_neg hl] at h
      exact absurd h hl
  · unfold ltoken at h ⊢
    rw [if_neg (by decide), if_neg (by decide), if_neg (by decide), if_pos rfl] at h ⊢
    split
    · rename_i hl
      rw [if_pos hl] at h
      cases h
    · refine ⟨fun h => (by cases h), fun h => (by cases h), fun h => (by cases h), .inr (.inr (.inl rfl)), by simp, ?_⟩
      simp only [List.length_take, List.length_drop]
      omega
  · unfold ltoken
    rw [if_neg (by decide), if_neg (by decide), if_neg (by decide), if_neg (by decide)]
    exact ⟨fun h => (by cases h), fun h => (by cases h), fun _ => h4 rfl, .inr (.inr (.inr rfl)), by simp, Nat.le_refl _⟩
theorem lfirst_good {l : List UInt8} (h0 : 0 < l.length) (h : (lfirst l).2.2 = 0) (hk : (lcut l).1 ≠ 0) : GoodTok (lfirst l).1 l.length := by
  obtain ⟨_, _, _, h3, h4, h5⟩ := lfirst_size h0 h
  obtain ⟨hs, hsl⟩ := lcut_size h0 (by have := (lfirst_size h0 h).2.2.1; exact this)
  have key : GoodTok (ltoken (lcut l).1 (l.take (lcut l).2.1)).1 (l.take (lcut l).2.1).length := by
    obtain ⟨cs, hcs⟩ := take_head h0 hs
    refine ltoken_good h4 ?_ (fun h1 => ⟨_, cs, hcs, ?_⟩) (fun h1 => ⟨_, cs, hcs, ?_⟩) fun h1 => ⟨l.headD 0, ?_, ?_⟩
    · unfold lcut at hk ⊢
      split
      · rename_i a; rw [if_pos a] at hk; exact absurd rfl hk
      rename_i a; rw [if_neg a] at hk
      split
      · rename_i a; rw [if_pos a] at hk; exact absurd rfl hk
      rename_i a; rw [if_neg a] at hk
      split
      · rename_i a; rw [if_pos a] at hk; exact absurd rfl hk
      rename_i a; rw [if_neg a] at hk
      split
      · exact .inl rfl
      rename_i a; rw [if_neg a] at hk
      split
      · exact .inr (.inl rfl)
      rename_i a; rw [if_neg a] at hk
      split
      · exact .inr (.inr (.inl rfl))
      rename_i a; rw [if_neg a] at hk
      split
      · exact .inr (.inr (.inr rfl))
      rename_i a; rw [if_neg a] at hk
      exact absurd rfl hk
    all_goals
      unfold lcut at h1
      split at h1
      · cases h1
      split at h1
      · cases h1
      split at h1
      · cases h1
      split at h1
      · first | assumption | cases h1
      split at h1
      · first | assumption | cases h1
      split at h1
      · cases h1
      split at h1
      · first
          | assumption
          | (cases h1; done)
          | (rename_i a1 a2 a3 a4 a5 a6 a7
             have e : (lcut l).2.1 = 1 := by
               unfold lcut
               rw [if_neg a1, if_neg a2, if_neg a3, if_neg a4, if_neg a5, if_neg a6, if_pos a7]
             rw [e]
             cases l with
             | nil => simp at h0
             | cons b l => rfl)
      · cases h1
  rw [h5]
  obtain ⟨k1, k2, k3, k4, k5, k6⟩ := key
  exact ⟨k1, k2, k3, k4, k5, Nat.le_trans k6 (by rw [List.length_take]; omega)⟩
theorem Lex.good {l : List UInt8} {i : Nat} {ts : List (Tok × Nat)} {e ea : Nat} (h : Lex l i ts e ea) : i ≤ l.length → ts.length + i ≤ l.length ∧ ∀ x ∈ ts, GoodTok x.1 l.length := by
  induction h with
  | done h => intro hi; exact ⟨by simpa using hi, fun x hx => (by cases hx)⟩
  | bad h1 h2 => intro hi; exact ⟨by simpa using hi, fun x hx => (by cases hx)⟩
  | @gap i ts e ea h1 h2 h3 h ih =>
    intro hi
    have h0 : 0 < (l.drop i).length := by rw [List.length_drop]; omega
    have hs := lfirst_size h0 h2
    rw [List.length_drop] at hs
    obtain ⟨a1, a2⟩ := ih (by omega)
    exact ⟨by omega, a2⟩
  | @tok i ts e ea h1 h2 h3 h ih =>
    intro hi
    have h0 : 0 < (l.drop i).length := by rw [List.length_drop]; omega
    have hs := lfirst_size h0 h2
    rw [List.length_drop] at hs
    obtain ⟨a1, a2⟩ := ih (by omega)
    refine ⟨by simp only [List.length_cons]; omega, fun x hx => ?_⟩
    rcases List.mem_cons.1 hx with rfl | hx
    · obtain ⟨k1, k2, k3, k4, k5, k6⟩ := lfirst_good h0 h2 h3
      exact ⟨k1, k2, k3, k4, k5, Nat.le_trans k6 (by rw [List.length_drop]; omega)⟩
    · exact a2 x hx
def tkOf (s : List UInt8) (x : Tok × Nat) : Tk := (x.1, (placeAt s x.2).1, (placeAt s x.2).2)
def tksOf (s : List UInt8) (ts : List (Tok × Nat)) : List Tk := ts.map (tkOf s)
theorem ws_ne : ∀ t ∈ ws, t ≠ [] := by decide
theorem ws_kind3 : ∀ t ∈ ws, kindT t ≠ 3 := by decide
theorem ws_let : ∀ t ∈ ws, lxLet (t.headD 0) = true → kindT t = 1 := by decide
theorem ws_fig : ∀ t ∈ ws, lxFig (t.headD 0) = false := by decide
theorem ws_sign : ∀ t ∈ ws, lxSign (t.headD 0) = true → kindT t = 4 := by decide
theorem tksOf_ok {s : List UInt8} (hs : s.length ≤ 4000) {ts : List (Tok × Nat)} {e ea : Nat} (h : Lex s 0 ts e ea) : PTk (tksOf s ts) := by
  obtain ⟨hl, hg⟩ := h.good (Nat.zero_le _)
  have hlen : (tksOf s ts).length = ts.length := by simp [tksOf]
  have hat : ∀ p, (p < ts.length ∧ (tksOf s ts)[p]? = some (tkAt (tksOf s ts) p) ∧ GoodTok (tkAt (tksOf s ts) p).1 s.length) ∨ (tkAt (tksOf s ts) p = tk0 ∧ (tksOf s ts)[p]? = none) := fun p => by
    rcases Nat.lt_or_ge p ts.length with hp | hp
    · refine .inl ⟨hp, tkAt_lt (by rw [hlen]; exact hp), ?_⟩
      have h1 := tkAt_lt (l := tksOf s ts) (p := p) (by rw [hlen]; exact hp)
      unfold tksOf at h1
      rw [List.getElem?_map, List.getElem?_eq_getElem hp] at h1
      have h2 : tkOf s ts[p] = tkAt (List.map (tkOf s) ts) p := Option.some.inj h1
      unfold tksOf
      rw [← h2]
      exact hg _ (List.getElem_mem hp)
    · refine .inr ⟨?_, List.getElem?_eq_none (by rw [hlen]; exact hp)⟩
      unfold tkAt
      rw [List.getD_eq_getElem?_getD, List.getElem?_eq_none (by rw [hlen]; exact hp)]
      rfl
  refine ⟨⟨by rw [hlen]; omega, fun p => ?_, fun p => ?_⟩, fun p t ht => ?_, fun p hk => ?_⟩
  · rcases hat p with ⟨_, _, h⟩ | ⟨h, _⟩
    · have := h.len
      omega
    · rw [h]; decide
  · rcases hat p with ⟨_, _, h⟩ | ⟨h, _⟩
    · have := h.num
      omega
    · rw [h]; decide
  · have hne := ws_ne t ht
    unfold tkIs
    rcases hat p with ⟨_, h1, h⟩ | ⟨h, h1⟩
    · rw [h1]
      generalize tkAt (tksOf s ts) p = x at h
      by_cases hx : x.1.t = t
      · rcases h.kind with hk | hk | hk | hk
        · obtain ⟨c, cs, hc, hb⟩ := h.one hk
          have : kindT t = 1 := ws_let t ht (by rw [← hx, hc]; exact hb)
          simp [hk, hx, this]
        · obtain ⟨c, cs, hc, hb⟩ := h.two hk
          have := ws_fig t ht
          rw [← hx, hc] at this
          simp only [List.headD_cons] at this
          rw [hb] at this
          cases this
        · have := ws_kind3 t ht
          simp [hk, Ne.symm this]
        · obtain ⟨c, hc, hb⟩ := h.four hk
          have : kindT t = 4 := ws_sign t ht (by rw [← hx, hc]; exact hb)
          simp [hk, hx, this]
      · simp [hx, hne]
    · rw [h1, h]
      simp only [Bool.not_false, Bool.or_eq_true, Bool.not_eq_true', decide_eq_false_iff_not]
      exact .inr (Ne.symm hne)
  · rcases hat p with ⟨_, _, h⟩ | ⟨h, _⟩
    · obtain ⟨c, cs, hc, _⟩ := h.one hk
      rw [hc]
      simp
    · rw [h] at hk
      cases hk
end Go.Proofs.YtfcjeciepadmeaaGreatDoor
namespace Go.Proofs.YtfcjeciepadmeaaGreatDoor
open Go.RowKit Go.Extern.Stop Go.Stop Go.Extern
abbrev tE : TypeId := 231
abbrev tR : TypeId := 191
theorem isTypeOf (v : Value) (w : World) : (Extern.ReflectliteType.typeOf #[.iface tE v]).run Tryz.prog w = .ok (.iface tR (.agg #[.pointer (some ⟨21, tE, none⟩)])) w := by kernel_rfl
def cmpM : Array Value → Sem Value := Extern.ReflectliteType.method fun t => do Extern.Rtype.noPackHeld "Comparable" t; pure (.bool (← typeInfo t).comparable)
theorem isComparable (w : World) : (cmpM #[.agg #[.pointer (some ⟨21, tE, none⟩)]]).run Tryz.prog w = .ok (.bool true) w := by kernel_rfl
theorem isMethod (v : Value) (w : World) : (Go.method 362 tR v "Comparable").run Tryz.prog w = .ok (171, v) w := by kernel_rfl
theorem isComp : (Tryz.prog.info? tE).map (·.comparable) = some true := by kernel_rfl
theorem isSize : (Tryz.prog.info? 250).map (·.size) = some 1 := by kernel_rfl
theorem noIs (v : Value) (xT : TypeId) (w : World) : (Instr.typeAssert (.iface tE v) xT 200 true).run Tryz.prog w = .ok (.tuple #[.nilIface, .bool false]) w := run_typeAssert_lacksB Tryz.underlying200 (by kernel_rfl) (by kernel_rfl) v xT w
theorem noUnwrap (v : Value) (xT : TypeId) (w : World) : (Instr.typeAssert (.iface tE v) xT 198 true).run Tryz.prog w = .ok (.tuple #[.nilIface, .bool false]) w := run_typeAssert_lacksB Tryz.underlying198 (by kernel_rfl) (by kernel_rfl) v xT w
theorem noUnwraps (v : Value) (xT : TypeId) (w : World) : (Instr.typeAssert (.iface tE v) xT 199 true).run Tryz.prog w = .ok (.tuple #[.nilIface, .bool false]) w := run_typeAssert_lacksB Tryz.underlying199 (by kernel_rfl) (by kernel_rfl) v xT w
end Go.Proofs.YtfcjeciepadmeaaGreatDoor
namespace Go.Proofs.YtfcjeciepadmeaaGreatDoor
open Go.RowKit Go.Extern.Stop Go.Stop Go.Extern
set_option maxRecDepth 100000
theorem as_nil (t : Value) (w : World) :
    Calls Tryz.prog 41 #[.nilIface, t] w fun e w' => e = .returned (.bool false) ∧ w' = w := by
  go_enter Tryz.func41, Tryz.ntmps41
  go_wp2
  go_ret
  exact ⟨rfl, rfl⟩
theorem fa_valueOf27 (t : Addr) (w : World) : (ReflectliteValue.unpack (.iface 107 (.pointer (some t)))).run Tryz.prog w
    = .ok (.agg #[.pointer (some ⟨21, 107, none⟩), .pointer (some ⟨w.heap.size, 0, none⟩), .int .u64 150]) (w.alloc (.cells #[.pointer (some t)] 107)) := by kernel_rfl
theorem fa_type27 (a : Addr) (w : World) : (ReflectliteValue.methodAny (ReflectliteValue.valueError "reflectlite.Value.Type" 0) (fun t _ _ _ => ReflectliteType.toType t) #[.agg #[.pointer (some ⟨21, 107, none⟩), .pointer (some a), .int .u64 150]]).run Tryz.prog w
    = .ok (.iface 191 (.agg #[.pointer (some ⟨21, 107, none⟩)])) w := by kernel_rfl
theorem fa_methodKind (h : Value) (w : World) : (Go.method 362 191 (.agg #[h]) "Kind").run Tryz.prog w = .ok (160, h) w := by kernel_rfl
theorem fa_kind27 (w : World) : ((ReflectliteType.abiMethod fun t => (fun a : Nat => Value.int IntKind.u8 (a : Int)) <$> Rtype.kind t) #[.pointer (some ⟨21, 107, none⟩)]).run Tryz.prog w = .ok (.int .u8 22) w := by kernel_rfl
theorem fa_kind25 (w : World) : ((ReflectliteType.abiMethod fun t => (fun a : Nat => Value.int IntKind.u8 (a : Int)) <$> Rtype.kind t) #[.pointer (some ⟨21, 78, none⟩)]).run Tryz.prog w = .ok (.int .u8 22) w := by kernel_rfl
theorem fa_parts27 (a : Addr) (w : World) : (ReflectliteValue.parts (.agg #[.pointer (some ⟨21, 107, none⟩), .pointer (some a), .int .u64 150])).run Tryz.prog w = .ok (some (107, a, 150)) w := by kernel_rfl
theorem fa_isNil27 (a p : Addr) (W : World) (ha : W.cell? a = some (.pointer (some p))) :
    (ReflectliteValue.method (ReflectliteValue.valueError "reflectlite.Value.IsNil" 0) ReflectliteValue.isNil #[.agg #[.pointer (some ⟨21, 107, none⟩), .pointer (some a), .int .u64 150]]).run Tryz.prog W = .ok (.bool false) W := by
  rw [Lib.rl_method]
  simp only [Sem.run_bind, fa_parts27, Result.andThen]
  simp [ReflectliteValue.isNil, loadVar, isAgg, underlying, Tryz.underlying107, ha, Result.andThen]
theorem fa_methodElem (h : Value) (w : World) : (Go.method 362 191 (.agg #[h]) "Elem").run Tryz.prog w = .ok (172, .agg #[h]) w := by kernel_rfl
theorem fa_methodImplements (h : Value) (w : World) : (Go.method 362 191 (.agg #[h]) "Implements").run Tryz.prog w = .ok (173, .agg #[h]) w := by kernel_rfl
theorem fa_methodAssignableTo (h : Value) (w : World) : (Go.method 362 191 (.agg #[h]) "AssignableTo").run Tryz.prog w = .ok (170, .agg #[h]) w := by kernel_rfl
theorem fa_elem27 (w : World) : (ReflectliteType.method ReflectliteType.elem #[.agg #[.pointer (some ⟨21, 107, none⟩)]]).run Tryz.prog w = .ok (.iface 191 (.agg #[.pointer (some ⟨21, 78, none⟩)])) w := by kernel_rfl
theorem fa_implements25 (w : World) : (ReflectliteType.relation "Implements" ReflectliteType.implements_ #[.agg #[.pointer (some ⟨21, 78, none⟩)], .iface 191 (.agg #[.pointer (some ⟨21, 28, none⟩)])]).run Tryz.prog w = .ok (.bool true) w := by kernel_rfl
theorem fa_typeOf25 (v : Value) (w : World) : (ReflectliteType.typeOf #[.iface 78 v]).run Tryz.prog w = .ok (.iface 191 (.agg #[.pointer (some ⟨21, 78, none⟩)])) w := by kernel_rfl
theorem fa_assignable25 (w : World) : (ReflectliteType.relation "AssignableTo" ReflectliteType.assignableTo #[.agg #[.pointer (some ⟨21, 78, none⟩)], .iface 191 (.agg #[.pointer (some ⟨21, 78, none⟩)])]).run Tryz.prog w = .ok (.bool true) w := by kernel_rfl
theorem fa_valueOf25 (e : Addr) (w : World) : (ReflectliteValue.unpack (.iface 78 (.pointer (some e)))).run Tryz.prog w
    = .ok (.agg #[.pointer (some ⟨21, 78, none⟩), .pointer (some ⟨w.heap.size, 0, none⟩), .int .u64 150]) (w.alloc (.cells #[.pointer (some e)] 78)) := by kernel_rfl
theorem fa_elemOf27 (w : World) : (Rtype.elem? 107).run Tryz.prog w = .ok (some 78) w := by kernel_rfl
theorem fa_mk25 (p : Addr) (w : World) : (ReflectliteValue.mk 78 p ReflectliteValue.flagAddr).run Tryz.prog w = .ok (.agg #[.pointer (some ⟨21, 78, none⟩), .pointer (some p), .int .u64 406]) w := by kernel_rfl
theorem fa_elemV27 (a p : Addr) (W : World) (ha : W.cell? a = some (.pointer (some p))) :
    (ReflectliteValue.method (ReflectliteValue.valueError "reflectlite.Value.Elem" 0) ReflectliteValue.elem #[.agg #[.pointer (some ⟨21, 107, none⟩), .pointer (some a), .int .u64 150]]).run Tryz.prog W
      = .ok (.agg #[.pointer (some ⟨21, 78, none⟩), .pointer (some p), .int .u64 406]) W := by
  rw [Lib.rl_method]
  simp only [Sem.run_bind, fa_parts27, Result.andThen]
  simp [ReflectliteValue.elem, loadVar, isAgg, underlying, Tryz.underlying107, ha, Result.andThen, fa_elemOf27, fa_mk25]
theorem fa_parts25a (a : Addr) (w : World) : (ReflectliteValue.parts (.agg #[.pointer (some ⟨21, 78, none⟩), .pointer (some a), .int .u64 406])).run Tryz.prog w = .ok (some (78, a, 406)) w := by kernel_rfl
theorem fa_parts25 (a : Addr) (w : World) : (ReflectliteValue.parts (.agg #[.pointer (some ⟨21, 78, none⟩), .pointer (some a), .int .u64 150])).run Tryz.prog w = .ok (some (78, a, 150)) w := by kernel_rfl
theorem fa_direct25 (w : World) : (Rtype.directlyAssignable 78 78).run Tryz.prog w = .ok true w := by kernel_rfl
theorem fa_set25 (ta b e : Addr) (old : Value) (W : World) (hb : W.cell? b = some (.pointer (some e))) (ht : W.cell? ta = some old) (hf : W.frozen? ta = false) :
    (ReflectliteValue.set #[.agg #[.pointer (some ⟨21, 78, none⟩), .pointer (some ta), .int .u64 406], .agg #[.pointer (some ⟨21, 78, none⟩), .pointer (some b), .int .u64 150]]).run Tryz.prog W
      = .ok (.tuple #[]) (W.setCell ta (.pointer (some e))) := by
  show Sem.run Tryz.prog (bind (ReflectliteValue.parts (.agg #[.pointer (some ⟨21, 78, none⟩), .pointer (some ta), .int .u64 406])) (fun x => bind (ReflectliteValue.parts (.agg #[.pointer (some ⟨21, 78, none⟩), .pointer (some b), .int .u64 150])) _)) W = _
  simp only [Sem.run_bind, fa_parts25a, fa_parts25, Result.andThen]
  simp [ReflectliteValue.flagAddr, loadVar, isAgg, underlying, Tryz.underlying78, hb, Result.andThen, fa_direct25, storeVar, Value.cells, storeCells, Addr.add]
  rw [run_store Tryz.prog W ta _ _ (by rfl)]
  simp [ht, hf]
set_option maxHeartbeats 4000000 in
theorem as_hit (e t : Addr) (old : Value) (w : World) (hg : w.cell? ⟨1, 0, none⟩ = some (.iface 191 (.agg #[.pointer (some ⟨21, 28, none⟩)]))) (ht0 : w.cell? t = some old) (hf0 : w.frozen? t = false) :
    Calls Tryz.prog 41 #[.iface 78 (.pointer (some e)), .iface 107 (.pointer (some t))] w fun ev w' => ev = .returned (.bool true) ∧ w' = ((((w.alloc (.cells #[.pointer (some t)] 107)).alloc (.cells #[.pointer (some ⟨21, 107, none⟩), .pointer (some ⟨w.heap.size, 0, none⟩), .int .u64 150] 148)).alloc (.cells #[.pointer (some ⟨21, 107, none⟩), .pointer (some ⟨w.heap.size, 0, none⟩), .int .u64 150] 148)).alloc (.cells #[.pointer (some e)] 78)).setCell t (.pointer (some e)) := by
  have h6 := @run_callFunc_extern Tryz.prog 63 _ (fun args => ReflectliteValue.unpack (args.getD 0 (.tuple #[]))) Tryz.func63 (by kernel_rfl) (by kernel_rfl) (by kernel_rfl) (by kernel_rfl)
  have h7 := @run_callFunc_extern Tryz.prog 64 _ (ReflectliteValue.methodAny (ReflectliteValue.valueError "reflectlite.Value.Type" 0) (fun t _ _ _ => ReflectliteType.toType t)) Tryz.func64 (by kernel_rfl) (by kernel_rfl) (by kernel_rfl) (by kernel_rfl)
  have h8 := @run_callFunc_extern Tryz.prog 65 _ (ReflectliteValue.method (ReflectliteValue.valueError "reflectlite.Value.IsNil" 0) ReflectliteValue.isNil) Tryz.func65 (by kernel_rfl) (by kernel_rfl) (by kernel_rfl) (by kernel_rfl)
  have h27 := @run_callFunc_extern Tryz.prog 160 _ (ReflectliteType.abiMethod fun t => do pure (.int .u8 (← Rtype.kind t))) Tryz.func160 (by kernel_rfl) (by kernel_rfl) (by kernel_rfl) (by kernel_rfl)
  have h37 := @run_callFunc_extern Tryz.prog 172 _ (ReflectliteType.method ReflectliteType.elem) Tryz.func172 (by kernel_rfl) (by kernel_rfl) (by kernel_rfl) (by kernel_rfl)
  have h38 := @run_callFunc_extern Tryz.prog 173 _ (ReflectliteType.relation "Implements" ReflectliteType.implements_) Tryz.func173 (by kernel_rfl) (by kernel_rfl) (by kernel_rfl) (by kernel_rfl)
  have h10 := @run_callFunc_extern Tryz.prog 67 _ ReflectliteType.typeOf Tryz.func67 (by kernel_rfl) (by kernel_rfl) (by kernel_rfl) (by kernel_rfl)
  have h35 := @run_callFunc_extern Tryz.prog 170 _ (ReflectliteType.relation "AssignableTo" ReflectliteType.assignableTo) Tryz.func170 (by kernel_rfl) (by kernel_rfl) (by kernel_rfl) (by kernel_rfl)
  have h11 := @run_callFunc_extern Tryz.prog 98 _ (ReflectliteValue.method (ReflectliteValue.valueError "reflectlite.Value.Elem" 0) ReflectliteValue.elem) Tryz.func98 (by kernel_rfl) (by kernel_rfl) (by kernel_rfl) (by kernel_rfl)
  have h12 := @run_callFunc_extern Tryz.prog 99 _ ReflectliteValue.set Tryz.func99 (by kernel_rfl) (by kernel_rfl) (by kernel_rfl) (by kernel_rfl)
  have tO := fa_typeOf25
  have mA := fa_methodAssignableTo
  have a25 := fa_assignable25
  have v25 := fa_valueOf25
  have f6 := fa_valueOf27
  have f7 := fa_type27
  have mK := fa_methodKind
  have mE := fa_methodElem
  have mI := fa_methodImplements
  have k27 := fa_kind27
  have k25 := fa_kind25
  have e27 := fa_elem27
  have i25 := fa_implements25
  have n8 := fa_isNil27 ⟨w.heap.size, 0, none⟩ t ((w.alloc (.cells #[.pointer (some t)] 107)).alloc (.cells #[.pointer (some ⟨21, 107, none⟩), .pointer (some ⟨w.heap.size, 0, none⟩), .int .u64 150] 148)) (by simp)
  have hlt : 1 < w.heap.size := World.block_lt_of_cell? w ⟨1, 0, none⟩ hg
  have hg2 : ((w.alloc (.cells #[.pointer (some t)] 107)).alloc (.cells #[.pointer (some ⟨21, 107, none⟩), .pointer (some ⟨w.heap.size, 0, none⟩), .int .u64 150] 148)).cell? ⟨1, 0, none⟩ = some (.iface 191 (.agg #[.pointer (some ⟨21, 28, none⟩)])) := by
    rw [World.cell?_alloc_lt _ _ ⟨1, 0, none⟩ (by simp; omega), World.cell?_alloc_lt _ _ ⟨1, 0, none⟩ hlt]; exact hg
  have htl : t.block < w.heap.size := by
    rcases Nat.lt_or_ge t.block w.heap.size with h | h
    · exact h
    · simp [World.cell?, Array.getElem?_eq_none h] at ht0
  have el := fa_elemV27 ⟨w.heap.size, 0, none⟩ t (((w.alloc (.cells #[.pointer (some t)] 107)).alloc (.cells #[.pointer (some ⟨21, 107, none⟩), .pointer (some ⟨w.heap.size, 0, none⟩), .int .u64 150] 148)).alloc (.cells #[.pointer (some ⟨21, 107, none⟩), .pointer (some ⟨w.heap.size, 0, none⟩), .int .u64 150] 148)) (by rw [World.cell?_alloc_lt _ _ ⟨w.heap.size, 0, none⟩ (by simp; omega)]; simp)
  have st := fa_set25 t ⟨w.heap.size + 1 + 1 + 1, 0, none⟩ e old ((((w.alloc (.cells #[.pointer (some t)] 107)).alloc (.cells #[.pointer (some ⟨21, 107, none⟩), .pointer (some ⟨w.heap.size, 0, none⟩), .int .u64 150] 148)).alloc (.cells #[.pointer (some ⟨21, 107, none⟩), .pointer (some ⟨w.heap.size, 0, none⟩), .int .u64 150] 148)).alloc (.cells #[.pointer (some e)] 78))
    (by rw [World.cell?_alloc_at _ _ _ _ (by simp)]; rfl)
    (by rw [World.cell?_alloc_lt _ _ t (by simp; omega), World.cell?_alloc_lt _ _ t (by simp; omega), World.cell?_alloc_lt _ _ t (by simp; omega), World.cell?_alloc_lt _ _ t htl]; exact ht0)
    (by rw [World.frozen?_alloc_old _ _ t (by simp; omega), World.frozen?_alloc_old _ _ t (by simp; omega), World.frozen?_alloc_old _ _ t (by simp; omega), World.frozen?_alloc_old _ _ t (Nat.ne_of_lt htl)]; exact hf0)
  go_enter Tryz.func41, Tryz.ntmps41
  go_wp2
  refine wp_loop_rounds 1 ?_
  rw [rounds_succ]
  go_wp2
  go_ret
  exact ⟨rfl, rfl⟩
end Go.Proofs.YtfcjeciepadmeaaGreatDoor
namespace Go.Proofs.YtfcjeciepadmeaaGreatDoor
open Go.RowKit Go.ChangeShapes
def errGs : List Nat := [2, 3, 0, 4, 5, 6, 7, 8, 9, 10, 11, 12, 13, 14, 15, 16, 17, 18, 19]
abbrev errV (A : Nat → Addr) (i : Nat) : Value := .iface tE (.pointer (some (A i)))
structure Errs (w : World) (A : Nat → Addr) : Prop where
  holds : ∀ i g, errGs[i]? = some g → w.cell? ⟨g, 0, none⟩ = some (errV A i)
  blocks : ∀ i, i < 19 → ∃ c t, w.heap[(A i).block]? = some (.cells c t (0, 0))
  apart : ∀ i j, i < 19 → j < 19 → i ≠ j → A i ≠ A j
theorem Errs.lt {w : World} {A : Nat → Addr} (h : Errs w A) {i g : Nat} (hi : errGs[i]? = some g) : g < w.heap.size := World.block_lt_of_cell? w ⟨g, 0, none⟩ (h.holds i g hi)
theorem Errs.below {w w' : World} {A : Nat → Addr} (h : Errs w A) (hb : Below w.heap.size w w') : Errs w' A :=
  ⟨fun i g hg => (hb.cell (p := ⟨g, 0, none⟩) (h.lt hg)).trans (h.holds i g hg), fun i hi => by
    obtain ⟨c, t, hc⟩ := h.blocks i hi
    exact ⟨c, t, (hb.block _ (Array.getElem?_eq_some_iff.1 hc).1).trans hc⟩, h.apart⟩
theorem Errs.only {w w' : World} {A : Nat → Addr} {r B : Nat} (h : Errs w A) (hb : w.grownBy w' (some r)) (hr : B ≤ r) (hB : ∀ (i g : Nat), errGs[i]? = some g → g < B) (hA : ∀ i, i < 19 → (A i).block < B) : Errs w' A :=
  ⟨fun i g hg => (World.cell?_of_block (hb.block g (h.lt hg) (by have := hB i g hg; simp; omega))).trans (h.holds i g hg), fun i hi => by
    obtain ⟨c, t, hc⟩ := h.blocks i hi
    exact ⟨c, t, (hb.block _ (Array.getElem?_eq_some_iff.1 hc).1 (by have := hA i hi; simp; omega)).trans hc⟩, h.apart⟩
set_option maxRecDepth 100000 in
theorem all_any (w : World) (A : Nat → Addr) (h : Errs w A) :
    Calls Tryz.prog 42 #[] w fun e w' => e = .returned (.slice (some ⟨w.heap.size, 0, none⟩) 19 19) ∧ Blk w' w.heap.size 28 ((List.range 19).map (errV A)) ∧ Below w.heap.size w w' := by
  have e0 : w.cell? ⟨2, 0, none⟩ = some (.iface tE (.pointer (some (A 0)))) := h.holds 0 _ rfl
  have e1 : w.cell? ⟨3, 0, none⟩ = some (.iface tE (.pointer (some (A 1)))) := h.holds 1 _ rfl
  have e2 : w.cell? ⟨0, 0, none⟩ = some (.iface tE (.pointer (some (A 2)))) := h.holds 2 _ rfl
  have e3 : w.cell? ⟨4, 0, none⟩ = some (.iface tE (.pointer (some (A 3)))) := h.holds 3 _ rfl
  have e4 : w.cell? ⟨5, 0, none⟩ = some (.iface tE (.pointer (some (A 4)))) := h.holds 4 _ rfl
  have e5 : w.cell? ⟨6, 0, none⟩ = some (.iface tE (.pointer (some (A 5)))) := h.holds 5 _ rfl
  have e6 : w.cell? ⟨7, 0, none⟩ = some (.iface tE (.pointer (some (A 6)))) := h.holds 6 _ rfl
  have e7 : w.cell? ⟨8, 0, none⟩ = some (.iface tE (.pointer (some (A 7)))) := h.holds 7 _ rfl
  have e8 : w.cell? ⟨9, 0, none⟩ = some (.iface tE (.pointer (some (A 8)))) := h.holds 8 _ rfl
  have e9 : w.cell? ⟨10, 0, none⟩ = some (.iface tE (.pointer (some (A 9)))) := h.holds 9 _ rfl
  have e10 : w.cell? ⟨11, 0, none⟩ = some (.iface tE (.pointer (some (A 10)))) := h.holds 10 _ rfl
  have e11 : w.cell? ⟨12, 0, none⟩ = some (.iface tE (.pointer (some (A 11)))) := h.holds 11 _ rfl
  have e12 : w.cell? ⟨13, 0, none⟩ = some (.iface tE (.pointer (some (A 12)))) := h.holds 12 _ rfl
  have e13 : w.cell? ⟨14, 0, none⟩ = some (.iface tE (.pointer (some (A 13)))) := h.holds 13 _ rfl
  have e14 : w.cell? ⟨15, 0, none⟩ = some (.iface tE (.pointer (some (A 14)))) := h.holds 14 _ rfl
  have e15 : w.cell? ⟨16, 0, none⟩ = some (.iface tE (.pointer (some (A 15)))) := h.holds 15 _ rfl
  have e16 : w.cell? ⟨17, 0, none⟩ = some (.iface tE (.pointer (some (A 16)))) := h.holds 16 _ rfl
  have e17 : w.cell? ⟨18, 0, none⟩ = some (.iface tE (.pointer (some (A 17)))) := h.holds 17 _ rfl
  have e18 : w.cell? ⟨19, 0, none⟩ = some (.iface tE (.pointer (some (A 18)))) := h.holds 18 _ rfl
  go_enter Tryz.func42, Tryz.ntmps42
  go_wp2
  go_ret
  refine ⟨rfl, ?_, (Below.refl _ _).alloc (Nat.le_refl _) _⟩
  exact Blk.new w 28 ((List.range 19).map (errV A))
set_option maxRecDepth 100000 in
theorem num_nil (w : World) : Calls Tryz.prog 20 #[.nilIface] w fun e w' => e = .returned (.int .i64 0) ∧ w = w' := by
  go_enter Tryz.func20, Tryz.ntmps20
  go_wp2
  go_ret
  exact ⟨rfl, rfl⟩
end Go.Proofs.YtfcjeciepadmeaaGreatDoor
