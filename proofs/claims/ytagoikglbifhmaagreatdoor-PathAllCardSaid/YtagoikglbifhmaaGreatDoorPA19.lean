/- Part 19 of what the last text of this claim is proved by: walks over the program, and the math behind them. Conditions: as each theorem says. -/
import Derived.Test.YtagoikglbifhmaaGreatDoorPA18
import Derived.Test.YtagoikglbifhmaaGreatDoorProg
namespace Go.Proofs.YtagoikglbifhmaaGreatDoor
open Go.RowKit
theorem kIf {a b : Int} (h : a = b) : Imp (.is (.int .i64 a)) (.is (.int .i64 b)) := Imp.of_eq (by rw [h])
theorem getD_some' {α : Type} [Inhabited α] {l : List α} {i : Nat} (h : i < l.length) : l[((i : Nat) : Int).toNat]? = some (l.getD i default) := by
  rw [Int.toNat_natCast, List.getD_eq_getElem?_getD, List.getElem?_eq_getElem h]
  rfl
abbrev sBx (s : St) : Bx := ⟨62, bcs (sd s)⟩
abbrev sBL (s : St) : BL := [(50, sBx s)]
abbrev YI (s : St) (z : Int) (y : IV) (B1 : BL) (R1 : RL) : Prop := y = .part (iP z) ∧ B1 = sBL s ∧ R1 = []
theorem YI.tidy {s : St} {z : Int} (y : IV) (B1 : BL) (R1 : RL) (h : YI s z y B1 R1) : Tidy (sBL s) [] y B1 R1 := by
  obtain ⟨rfl, rfl, rfl⟩ := h
  exact ⟨rfl, rfl, rfl, rfl⟩
abbrev cBL (t : TypeId) (fc : FuncId) (s : St) : BL := [(51, ⟨t, [.clo (.func fc) [] [.box 50 0]]⟩), (50, sBx s)]
abbrev YC (t : TypeId) (fc : FuncId) (s : St) (z : Part) (y : IV) (B1 : BL) (R1 : RL) : Prop := y = .part z ∧ B1 = cBL t fc s ∧ R1 = []
theorem YC.tidyI {t : TypeId} {fc : FuncId} {s : St} {z : Int} (y : IV) (B1 : BL) (R1 : RL) (h : YC t fc s (iP z) y B1 R1) : Tidy (cBL t fc s) [] y B1 R1 := by
  obtain ⟨rfl, rfl, rfl⟩ := h
  exact ⟨rfl, rfl, rfl, rfl⟩
theorem YC.tidyB {t : TypeId} {fc : FuncId} {s : St} {z : Bool} (y : IV) (B1 : BL) (R1 : RL) (h : YC t fc s (tP z) y B1 R1) : Tidy (cBL t fc s) [] y B1 R1 := by
  obtain ⟨rfl, rfl, rfl⟩ := h
  exact ⟨rfl, rfl, rfl, rfl⟩
abbrev YT (t : TypeId) (fc : FuncId) (s : St) (z : Int) (b : Bool) (y : IV) (B1 : BL) (R1 : RL) : Prop := y = .tup [iP z, tP b] ∧ B1 = cBL t fc s ∧ R1 = []
theorem YT.tidy {t : TypeId} {fc : FuncId} {s : St} {z : Int} {b : Bool} (y : IV) (B1 : BL) (R1 : RL) (h : YT t fc s z b y B1 R1) : Tidy (cBL t fc s) [] y B1 R1 := by
  obtain ⟨rfl, rfl, rfl⟩ := h
  exact ⟨rfl, rfl, rfl, rfl⟩
set_option maxRecDepth 100000 in
theorem fclo_eg (s : St) (x : Int × Vl) : EG Tryz.prog [] 84 [.part (.many (fd x)), .box 50 0] (sBL s) [] (YI s (icmp x.1 s.num)) := by
  refine eg_enter 9 Tryz.func84 rfl rfl rfl fun w D bor mb => ?_
  try refine e_fl ?_
  refine e_list ?_
  refine e_box 2 rfl rfl rfl rfl (kn rfl) rfl rfl rfl rfl ?_
  refine l_as ?_
  refine e_nil ?_
  try refine e_fl ?_
  refine e_plain (w_op rfl rfl rfl (s_faddr_box rfl (kn rfl) off_66_0) (w_op rfl rfl rfl (s_load1_box rfl (kn rfl) rfl rfl one_3) (w_op rfl rfl rfl (s_faddr_box rfl (kn rfl) off_62_1) (w_op rfl rfl rfl (s_load1_box rfl (kn rfl) rfl rfl one_3) (w_op rfl rfl rfl (s_call rfl (by kernel_rfl) (cmp_int_ef x.1 s.num) ⟨(kn rfl), ⟨(kn rfl), trivial⟩⟩) (w_as rfl rfl rfl rfl rfl .nil)))))) ?_
  try refine e_fl ?_
  exact e_returnx (sBL s) ([]) rfl (.tmp (kn rfl) (.nil)) (Imp.refl _) ⟨s_b, trivial⟩ trivial (⟨rfl, rfl, rfl⟩)
set_option maxRecDepth 100000 in
theorem pclo_eg (s : St) (hs : Short s.key) (x : Vl × Vl) (hx : Short x.1) : EG Tryz.prog [] 86 [.part (.many (pd x)), .box 50 0] (sBL s) [] (YI s (vcmp x.1 s.key)) := by
  refine eg_enter 9 Tryz.func86 rfl rfl rfl fun w D bor mb => ?_
  try refine e_fl ?_
  refine e_list ?_
  refine e_box 2 rfl rfl rfl rfl (kn rfl) rfl rfl rfl rfl ?_
  refine l_as ?_
  refine e_nil ?_
  try refine e_fl ?_
  refine e_plain (w_op rfl rfl rfl (s_faddr_box rfl (kn rfl) off_82_0) (w_op rfl rfl rfl (s_loadn_box (ds := [_, _, _, _, _, _, _]) 7 rfl (kn rfl) rfl rfl agg_27 sz_27 rfl) (w_op rfl rfl rfl (s_faddr_box rfl (kn rfl) off_62_3) (w_op rfl rfl rfl (s_loadn_box (ds := [_, _, _, _, _, _, _]) 7 rfl (kn rfl) rfl rfl agg_27 sz_27 rfl) (w_op rfl rfl rfl (s_call rfl (by kernel_rfl) (vcompare_ef x.1 hx s.key hs) ⟨(kn rfl), ⟨(kn rfl), trivial⟩⟩) (w_as rfl rfl rfl rfl rfl .nil)))))) ?_
  try refine e_fl ?_
  exact e_returnx (sBL s) ([]) rfl (.tmp (kn rfl) (.nil)) (Imp.refl _) ⟨s_b, trivial⟩ trivial (⟨rfl, rfl, rfl⟩)
theorem fidx_ge {α : Type} (p : α → Bool) : ∀ (l : List α) (k : Nat), -1 ≤ fidx p l k
  | [], _ => Int.le_refl _
  | x :: l, k => by
    unfold fidx
    split
    · omega
    · exact fidx_ge p l (k + 1)
set_option maxRecDepth 100000 in
theorem one_fields_eg (s : St) (x : Int × Vl) (z : Int) (hc : EG Tryz.prog [] 84 [.part (.many (fd x)), .box 50 0] (sBL s) [] (YI s z)) : EG Tryz.prog [] 106 [.part (.many (fd x)), .part (iP 0), .box 51 0] (cBL 70 84 s) [] (YC 70 84 s (iP z)) := by
  refine eg_enter 9 Tryz.func106 rfl rfl rfl fun w D bor mb => ?_
  try refine e_fl ?_
  refine e_list ?_
  refine e_box 3 rfl rfl rfl rfl (kn rfl) rfl rfl rfl rfl ?_
  refine l_as ?_
  refine e_nil ?_
  try refine e_fl ?_
  refine e_list ?_
  refine l_op (s_load1_box rfl (kn rfl) rfl rfl one_70) ?_
  refine l_op (s_loadn_box (ds := [_, _, _, _, _, _, _, _]) 8 rfl (kn rfl) rfl rfl agg_66 sz_66 rfl) ?_
  refine e_callci (zs := [_]) rfl rfl rfl rfl (by kernel_rfl) (hc) ⟨rfl, trivial⟩ trivial (kn rfl) ⟨(kn rfl), trivial⟩ rfl (YI.tidy) ?_
  rintro _ _ _ ⟨rfl, rfl, rfl⟩
  refine l_as ?_
  refine e_nil ?_
  try refine e_fl ?_
  exact e_returnx (cBL 70 84 s) ([]) rfl (.tmp (kn rfl) (.nil)) (Imp.refl _) ⟨s_b, s_b, trivial⟩ trivial (⟨rfl, rfl, rfl⟩)
set_option maxRecDepth 100000 in
theorem two_fields_eg (s : St) (x : Int × Vl) (z : Int) (hc : EG Tryz.prog [] 84 [.part (.many (fd x)), .box 50 0] (sBL s) [] (YI s z)) : EG Tryz.prog [] 108 [.part (.many (fd x)), .box 51 0] (cBL 70 84 s) [] (YC 70 84 s (tP (decide (z = 0)))) := by
  refine eg_enter 8 Tryz.func108 rfl rfl rfl fun w D bor mb => ?_
  try refine e_fl ?_
  refine e_list ?_
  refine e_box 2 rfl rfl rfl rfl (kn rfl) rfl rfl rfl rfl ?_
  refine l_as ?_
  refine e_nil ?_
  try refine e_fl ?_
  refine e_list ?_
  refine l_op (s_load1_box rfl (kn rfl) rfl rfl one_70) ?_
  refine l_op (s_loadn_box (ds := [_, _, _, _, _, _, _, _]) 8 rfl (kn rfl) rfl rfl agg_66 sz_66 rfl) ?_
  refine e_callci (zs := [_]) rfl rfl rfl rfl (by kernel_rfl) (hc) ⟨rfl, trivial⟩ trivial (kn rfl) ⟨(kn rfl), trivial⟩ rfl (YI.tidy) ?_
  rintro _ _ _ ⟨rfl, rfl, rfl⟩
  refine l_op (s_bin rfl (kn rfl) (kn rfl) v_eql) ?_
  refine l_as ?_
  refine e_nil ?_
  try refine e_fl ?_
  exact e_returnx (cBL 70 84 s) ([]) rfl (.tmp (kn rfl) (.nil)) (Imp.refl _) ⟨s_b, s_b, trivial⟩ trivial (⟨rfl, rfl, rfl⟩)
set_option maxRecDepth 100000 in
set_option maxHeartbeats 1000000 in
theorem idx_fields_eg (s : St) (l : List (Int × Vl)) (hl : l.length ≤ 1000000) (c : Int × Vl → Int) (hc : ∀ x ∈ l, EG Tryz.prog [] 84 [.part (.many (fd x)), .box 50 0] (sBL s) [] (YI s (c x))) :
    EG Tryz.prog [] 107 [.part (.one (.row 8 l.length (l.flatMap fieldDats))), .clo (.func 108) [] [.box 51 0]] (cBL 70 84 s) [] (YC 70 84 s (iP (fidx (fun x => decide (c x = 0)) l 0))) := by
  obtain ⟨p, hp⟩ : ∃ p : Int × Vl → Bool, p = fun x => decide (c x = 0) := ⟨_, rfl⟩
  have hpx : ∀ x, p x = decide (c x = 0) := fun x => by rw [hp]
  rw [← hp]
  refine eg_enter 19 Tryz.func107 rfl rfl rfl fun w D bor mb => ?_
  try refine e_fl ?_
  refine e_plain (w_as rfl rfl rfl rfl rfl .nil) ?_
  try refine e_fl ?_
  refine e_plain (w_mv rfl rfl rfl rfl rfl (w_op rfl rfl rfl (s_len rfl (kn rfl) sle_23) (w_mv rfl rfl rfl rfl rfl .nil))) ?_
  try refine e_fl ?_
  refine e_loop (ι := { k : Nat // k ≤ l.length ∧ fidx p l 0 = fidx p (l.drop k) k })
    (fun k => [(0, .part (.one (.row 8 l.length (l.flatMap fieldDats)))), (1, .clo (.func 108) [] [.box 51 0]), (7, .is (.int .i64 (l.length : Int))), (8, .is (.int .i64 (k.1 : Int)))])
    (fun _ => cBL 70 84 s) (fun _ => []) (fun k => l.length - k.1) ⟨0, by omega, rfl⟩
    (fun K => e_sub ⟨s_t, s_t, s_t, s_t, trivial⟩ ⟨s_b, s_b, trivial⟩ trivial) ?_
  rintro ⟨k, hk, hw⟩
  dsimp only at hk hw ⊢
  try refine e_fl ?_
  refine e_plain (w_op rfl rfl rfl (s_bin rfl (kn rfl) (kn rfl) v_lss) .nil) ?_
  try refine e_fl ?_
  refine e_cond rfl (fun h => ?_) (fun h => ?_)
  · have hlt : k < l.length := by have := of_decide_eq_true h; omega
    obtain ⟨x, hx⟩ : ∃ x, l[k]? = some x := ⟨_, List.getElem?_eq_getElem hlt⟩
    try refine e_fl ?_
    refine e_plain (w_mv rfl rfl rfl rfl rfl (w_as rfl rfl rfl rfl rfl .nil)) ?_
    try refine e_fl ?_
    refine e_list ?_
    refine l_mv ?_
    refine l_mv ?_
    refine l_mv ?_
    refine l_op (s_index rfl (kn rfl) (kn rfl) (by omega) hx fieldDats_len sle_23 esz_23 (fieldDats_vd x)) ?_
    refine l_op (s_loadn_ref rfl (kn rfl) agg_66 sz_66) ?_
    refine e_callci (zs := [_]) rfl rfl rfl rfl (by kernel_rfl) (two_fields_eg s x (c x) (hc x (List.mem_of_getElem? hx))) ⟨rfl, rfl, trivial⟩ trivial (kn rfl) ⟨(kn rfl), trivial⟩ rfl (YC.tidyB) ?_
    rintro _ _ _ ⟨rfl, rfl, rfl⟩
    refine e_nil ?_
    try refine e_fl ?_
    refine e_cond rfl (fun h1 => ?_) (fun h1 => ?_)
    · have e := fidx_here hx hw (by rw [hpx]; exact h1)
      try refine e_fl ?_
      refine e_plain (w_mv rfl rfl rfl rfl rfl (w_as rfl rfl rfl rfl rfl .nil)) ?_
      try refine e_fl ?_
      exact e_returnx (cBL 70 84 s) ([]) rfl (.tmp (kn rfl) (.nil)) (Imp.refl _) ⟨s_b, s_b, trivial⟩ trivial (⟨by rw [e]; rfl, rfl, rfl⟩)
    try refine e_fl ?_
    refine e_plain (w_op rfl rfl rfl (s_bin rfl (kn rfl) (kn rfl) (v_add64 (by first | omega | (dsimp only; omega) | omega))) (w_mv rfl rfl rfl rfl rfl .nil)) ?_
    try refine e_fl ?_
    refine e_again ⟨k + 1, by omega, fidx_next hx hw (by rw [hpx]; exact h1)⟩ (by dsimp only; omega) (fun K => e_sub ⟨s_t, s_t, s_t, s_t, trivial⟩ ⟨s_b, s_b, trivial⟩ trivial)
  have e : fidx p l 0 = -1 := fidx_end (by have := of_decide_eq_false h; omega) hw
  try refine e_fl ?_
  refine e_plain (w_as rfl rfl rfl rfl rfl .nil) ?_
  try refine e_fl ?_
  exact e_returnx (cBL 70 84 s) ([]) rfl (.tmp (kn rfl) (.nil)) (Imp.refl _) ⟨s_b, s_b, trivial⟩ trivial (⟨by rw [e]; rfl, rfl, rfl⟩)
set_option maxRecDepth 100000 in
set_option maxHeartbeats 2000000 in
theorem bsc_fields_eg (s : St) (l : List (Int × Vl)) (hl : l.length ≤ 1000000) (c : Int × Vl → Int) (hmono : ∀ (i j : Nat) x y, i ≤ j → l[i]? = some x → l[j]? = some y → c y < 0 → c x < 0) (hc : ∀ x ∈ l, EG Tryz.prog [] 84 [.part (.many (fd x)), .box 50 0] (sBL s) [] (YI s (c x))) :
    EG Tryz.prog [] 105 [.part (.one (.row 8 l.length (l.flatMap fieldDats))), .part (iP 0), .clo (.func 106) [] [.box 51 0]] (cBL 70 84 s) [] (YT 70 84 s (gidx c l) (gfound c l)) := by
  refine eg_enter 49 Tryz.func105 rfl rfl rfl fun w D bor mb => ?_
  try refine e_fl ?_
  refine e_plain (w_as rfl rfl rfl rfl rfl (w_as rfl rfl rfl rfl rfl .nil)) ?_
  try refine e_fl ?_
  refine e_plain (w_mv rfl rfl rfl rfl rfl (w_op rfl rfl rfl (s_len rfl (kn rfl) sle_23) (w_as rfl rfl rfl rfl rfl .nil))) ?_
  try refine e_fl ?_
  refine e_plain (w_mv rfl rfl rfl rfl rfl (w_as rfl rfl rfl rfl rfl (w_as rfl rfl rfl rfl rfl .nil))) ?_
  try refine e_fl ?_
  refine e_loop (ι := { ij : Nat × Nat // ij.1 ≤ ij.2 ∧ ij.2 ≤ l.length ∧ (∀ (p : Nat) x, p < ij.1 → l[p]? = some x → c x < 0) ∧ ∀ (q : Nat) y, ij.2 ≤ q → l[q]? = some y → ¬ c y < 0 })
    (fun i => [(0, .part (.one (.row 8 l.length (l.flatMap fieldDats)))), (1, .part (iP 0)), (2, .clo (.func 106) [] [.box 51 0]), (8, .is (.int .i64 (l.length : Int))), (9, .is (.int .i64 (i.1.1 : Int))), (10, .is (.int .i64 (i.1.2 : Int)))])
    (fun _ => cBL 70 84 s) (fun _ => []) (fun i => i.1.2 - i.1.1) ⟨(0, l.length), by omega, by omega, fun p x h => absurd h (by dsimp only; omega), fun q y h hy => by rw [List.getElem?_eq_none h] at hy; cases hy⟩
    (fun K => e_sub ⟨s_t, s_t, s_t, s_t, s_t, s_t, trivial⟩ ⟨s_b, s_b, trivial⟩ trivial) ?_
  rintro ⟨⟨i, j⟩, hij, hj, hlo, hhi⟩
  dsimp only at hij hj hlo hhi ⊢
  try refine e_fl ?_
  refine e_plain (w_mv rfl rfl rfl rfl rfl (w_mv rfl rfl rfl rfl rfl (w_op rfl rfl rfl (s_bin rfl (kn rfl) (kn rfl) v_lss) .nil))) ?_
  try refine e_fl ?_
  refine e_cond rfl (fun h => ?_) (fun h => ?_)
  · have hlt : i < j := by have := of_decide_eq_true h; omega
    obtain ⟨m, hm⟩ : ∃ m, m = (i + j) / 2 := ⟨_, rfl⟩
    have hmi : ((i : Int) + (j : Int)) / 2 = (m : Int) := by omega
    obtain ⟨x, hx⟩ : ∃ x, l[m]? = some x := ⟨_, List.getElem?_eq_getElem (by omega)⟩
    have hx' : l[(((i : Int) + (j : Int)) / 2).toNat]? = some x := by rw [hmi, Int.toNat_natCast]; exact hx
    try refine e_fl ?_
    refine e_plain (w_mv rfl rfl rfl rfl rfl (w_mv rfl rfl rfl rfl rfl (w_op rfl rfl rfl (s_bin rfl (kn rfl) (kn rfl) (v_add64 (by first | omega | (dsimp only; omega) | omega))) (w_op rfl rfl rfl (s_convk rfl (kn rfl) (by kernel_rfl) int_131 (by kernel_rfl) (wrap_u64 _ (by omega) (by omega))) (w_op rfl rfl rfl (s_bin rfl (kn rfl) (kn rfl) v_shr1) (w_op rfl rfl rfl (s_convk rfl (kn rfl) (by kernel_rfl) int_3 (by kernel_rfl) (wrap_in _ (by omega) (by omega))) (w_as rfl rfl rfl rfl rfl .nil))))))) ?_
    try refine e_fl ?_
    refine e_list ?_
    refine l_mv ?_
    refine l_mv ?_
    refine l_mv ?_
    refine l_op (s_index rfl (kn rfl) (kn rfl) (by omega) hx' fieldDats_len sle_23 esz_23 (fieldDats_vd x)) ?_
    refine l_op (s_loadn_ref rfl (kn rfl) agg_66 sz_66) ?_
    refine l_mv ?_
    refine e_callci (zs := [_, _]) rfl rfl rfl rfl (by kernel_rfl) (one_fields_eg s x (c x) (hc x (List.mem_of_getElem? hx))) ⟨rfl, rfl, trivial⟩ trivial (kn rfl) ⟨(kn rfl), ⟨(kn rfl), trivial⟩⟩ rfl (YC.tidyI) ?_
    rintro _ _ _ ⟨rfl, rfl, rfl⟩
    refine l_op (s_bin rfl (kn rfl) (kn rfl) v_lss) ?_
    refine e_nil ?_
    try refine e_fl ?_
    refine e_cond rfl (fun h1 => ?_) (fun h1 => ?_)
    · try refine e_fl ?_
      refine e_plain (w_mv rfl rfl rfl rfl rfl (w_op rfl rfl rfl (s_bin rfl (kn rfl) (kn rfl) (v_add64 (by first | omega | (dsimp only; omega) | omega))) (w_as rfl rfl rfl rfl rfl .nil))) ?_
      try refine e_fl ?_
      refine e_again ⟨(m + 1, j), by dsimp only; omega, hj, fun p y hp hy => hmono p m y x (by dsimp only at hp; omega) hy hx (of_decide_eq_true h1), hhi⟩ (by dsimp only; omega) (fun K => e_sub ⟨s_t, s_t, s_t, s_t, ⟨_, rfl, kIf (by dsimp only; omega)⟩, s_t, trivial⟩ ⟨s_b, s_b, trivial⟩ trivial)
    · try refine e_fl ?_
      refine e_plain (w_mv rfl rfl rfl rfl rfl (w_as rfl rfl rfl rfl rfl .nil)) ?_
      try refine e_fl ?_
      refine e_again ⟨(i, m), by dsimp only; omega, by dsimp only; omega, hlo, fun q y hq hy hn => of_decide_eq_false h1 (hmono m q x y hq hx hy hn)⟩ (by dsimp only; omega) (fun K => e_sub ⟨s_t, s_t, s_t, s_t, s_t, ⟨_, rfl, kIf hmi⟩, trivial⟩ ⟨s_b, s_b, trivial⟩ trivial)
  obtain rfl : i = j := by have := of_decide_eq_false h; omega
  have hg : gidx c l = i := gidx_of hj hlo (fun x hx => hhi i x (Nat.le_refl _) hx)
  clear h
  have hget : decide ((i : Int) < (l.length : Int)) = true → l[(i : Int).toNat]? = some (l.getD i default) := fun h => getD_some' (by have := of_decide_eq_true h; omega)
  have hgn : decide ((i : Int) < (l.length : Int)) = decide (i < l.length) := decide_eq_decide.2 (by omega)
  try refine e_fl ?_
  refine e_list ?_
  refine l_mv ?_
  refine l_mv ?_
  refine l_mv ?_
  refine l_op (s_bin rfl (kn rfl) (kn rfl) v_lss) ?_
  refine l_mv ?_
  refine e_list_gd rfl rfl rfl (fun h => s_move rfl (kn rfl)) ?_
  refine e_list_gd rfl rfl rfl (fun h => s_move rfl (kn rfl)) ?_
  refine e_list_gd rfl rfl rfl (fun h => s_move rfl (kn rfl)) ?_
  refine e_list_gd rfl rfl rfl (fun h => s_index rfl (kn_opt rfl h) (kn_opt rfl h) (by omega) (hget h) fieldDats_len sle_23 esz_23 (fieldDats_vd _)) ?_
  refine e_list_gd rfl rfl rfl (fun h => s_loadn_ref rfl (kn_opt rfl h) agg_66 sz_66) ?_
  refine e_list_gd rfl rfl rfl (fun h => s_move rfl (kn rfl)) ?_
  refine e_guard rfl rfl rfl (fun hgt => ?_) (fun hgf => ?_)
  · have hE1 := one_fields_eg s (l.getD i default) (c (l.getD i default)) (hc _ (List.mem_of_getElem? (hget hgt)))
    refine e_callci (zs := [_, _]) rfl rfl rfl rfl (by kernel_rfl) hE1 ⟨rfl, rfl, trivial⟩ trivial (kn_opt rfl hgt) ⟨kn_opt rfl hgt, kn_opt rfl hgt, trivial⟩ rfl YC.tidyI ?_
    rintro _ _ _ ⟨rfl, rfl, rfl⟩
    refine e_list_gd rfl rfl rfl (fun h => s_bin rfl (kn rfl) (kn rfl) v_eql) ?_
    refine l_op (s_and rfl (kn rfl) (fun hb => kn_opt rfl hb)) ?_
    refine l_as ?_
    refine l_as ?_
    refine e_nil ?_
    try refine e_fl ?_
    exact e_returnx (cBL 70 84 s) ([]) rfl (.tmp (kn rfl) (.tmp (kn rfl) (.nil))) (Imp.refl _) ⟨s_b, s_b, trivial⟩ trivial (⟨by rw [← hg]; unfold gfound; rw [hg, ← hgn]; rfl, rfl, rfl⟩)
  · refine e_list_gd rfl rfl rfl (fun h => (show LStep Tryz.prog _ _ _ _ _ (.is (.bool false)) from absurd h (by rw [hgf]; decide))) ?_
    refine l_op (s_and rfl (kn rfl) (fun hb => kn_opt rfl hb)) ?_
    refine l_as ?_
    refine l_as ?_
    refine e_nil ?_
    try refine e_fl ?_
    exact e_returnx (cBL 70 84 s) ([]) rfl (.tmp (kn rfl) (.tmp (kn rfl) (.nil))) (Imp.refl _) ⟨s_b, s_b, trivial⟩ trivial (⟨by rw [← hg]; unfold gfound; rw [hg, ← hgn, hgf]; rfl, rfl, rfl⟩)
set_option maxRecDepth 100000 in
set_option maxHeartbeats 1000000 in
theorem place_fields_eg (s : St) (l : List (Int × Vl)) (hl : l.length ≤ 1000000) (c : Int × Vl → Int) (hmono : ∀ (i j : Nat) x y, i ≤ j → l[i]? = some x → l[j]? = some y → c y < 0 → c x < 0) (hno : gfound c l = false → ∀ x ∈ l, c x ≠ 0) (hc : ∀ x ∈ l, EG Tryz.prog [] 84 [.part (.many (fd x)), .box 50 0] (sBL s) [] (YI s (c x))) :
    EG Tryz.prog [] 83 [.part (.one (.row 8 l.length (l.flatMap fieldDats))), .clo (.func 84) [] [.box 50 0]] (sBL s) [] (YI s (if gfound c l then (gidx c l : Int) else -1)) := by
  refine eg_enter 18 Tryz.func83 rfl rfl rfl fun w D bor mb => ?_
  try refine e_fl ?_
  refine e_list ?_
  refine e_boxi 51 rfl rfl rfl rfl (kn rfl) rfl rfl rfl rfl rfl ?_
  refine l_as ?_
  refine e_nil ?_
  try refine e_fl ?_
  refine e_list ?_
  refine l_mv ?_
  refine l_op (s_func (fs := []) (cs := [.box 51 0]) rfl trivial ⟨kn rfl, trivial⟩) ?_
  refine e_calli rfl rfl rfl rfl (by kernel_rfl) (bsc_fields_eg s l hl c hmono hc) ⟨rfl, rfl, trivial⟩ trivial ⟨(kn rfl), ⟨(kn rfl), ⟨(kn rfl), trivial⟩⟩⟩ (YT.tidy) ?_
  rintro _ _ _ ⟨rfl, rfl, rfl⟩
  refine l_mv ?_
  refine l_ex ?_
  refine l_ex ?_
  refine l_as ?_
  refine l_as ?_
  refine e_nil ?_
  try refine e_fl ?_
  refine e_plain (w_mv rfl rfl rfl rfl rfl .nil) ?_
  try refine e_fl ?_
  refine e_cond rfl (fun h => ?_) (fun h => ?_)
  · try refine e_fl ?_
    refine e_plain (w_mv rfl rfl rfl rfl rfl (w_as rfl rfl rfl rfl rfl .nil)) ?_
    try refine e_fl ?_
    exact e_returnx (sBL s) ([]) rfl (.tmp (kn rfl) (.nil)) (Imp.refl _) ⟨s_b, trivial⟩ trivial (⟨by rw [h]; rfl, rfl, rfl⟩)
  have hf : fidx (fun x => decide (c x = 0)) l 0 = -1 := by
    have h1 := fidx_any (p := fun x => decide (c x = 0)) l 0
    have h2 : (l.any fun x => decide (c x = 0)) = false := by
      rw [List.any_eq_false]
      intro x hx
      simpa using hno h x hx
    rw [h2] at h1
    have h3 := of_decide_eq_false h1
    have h4 := fidx_ge (fun x => decide (c x = 0)) l 0
    omega
  try refine e_fl ?_
  refine e_list ?_
  refine l_mv ?_
  refine l_op (s_func (fs := []) (cs := [.box 51 0]) rfl trivial ⟨kn rfl, trivial⟩) ?_
  refine e_calli rfl rfl rfl rfl (by kernel_rfl) (idx_fields_eg s l hl c hc) ⟨rfl, rfl, trivial⟩ trivial ⟨(kn rfl), ⟨(kn rfl), trivial⟩⟩ (YC.tidyI) ?_
  rintro _ _ _ ⟨rfl, rfl, rfl⟩
  refine l_as ?_
  refine e_nil ?_
  try refine e_fl ?_
  exact e_returnx (sBL s) ([]) rfl (.tmp (kn rfl) (.nil)) (Imp.refl _) ⟨s_b, trivial⟩ trivial (⟨by rw [h, hf]; rfl, rfl, rfl⟩)
set_option maxRecDepth 100000 in
theorem one_pairs_eg (s : St) (x : Vl × Vl) (z : Int) (hc : EG Tryz.prog [] 86 [.part (.many (pd x)), .box 50 0] (sBL s) [] (YI s z)) : EG Tryz.prog [] 110 [.part (.many (pd x)), .part (iP 0), .box 51 0] (cBL 105 86 s) [] (YC 105 86 s (iP z)) := by
  refine eg_enter 9 Tryz.func110 rfl rfl rfl fun w D bor mb => ?_
  try refine e_fl ?_
  refine e_list ?_
  refine e_box 3 rfl rfl rfl rfl (kn rfl) rfl rfl rfl rfl ?_
  refine l_as ?_
  refine e_nil ?_
  try refine e_fl ?_
  refine e_list ?_
  refine l_op (s_load1_box rfl (kn rfl) rfl rfl one_105) ?_
  refine l_op (s_loadn_box (ds := [_, _, _, _, _, _, _, _, _, _, _, _, _, _]) 14 rfl (kn rfl) rfl rfl agg_82 sz_82 rfl) ?_
  refine e_callci (zs := [_]) rfl rfl rfl rfl (by kernel_rfl) (hc) ⟨rfl, trivial⟩ trivial (kn rfl) ⟨(kn rfl), trivial⟩ rfl (YI.tidy) ?_
  rintro _ _ _ ⟨rfl, rfl, rfl⟩
  refine l_as ?_
  refine e_nil ?_
  try refine e_fl ?_
  exact e_returnx (cBL 105 86 s) ([]) rfl (.tmp (kn rfl) (.nil)) (Imp.refl _) ⟨s_b, s_b, trivial⟩ trivial (⟨rfl, rfl, rfl⟩)
set_option maxRecDepth 100000 in
theorem two_pairs_eg (s : St) (x : Vl × Vl) (z : Int) (hc : EG Tryz.prog [] 86 [.part (.many (pd x)), .box 50 0] (sBL s) [] (YI s z)) : EG Tryz.prog [] 112 [.part (.many (pd x)), .box 51 0] (cBL 105 86 s) [] (YC 105 86 s (tP (decide (z = 0)))) := by
  refine eg_enter 8 Tryz.func112 rfl rfl rfl fun w D bor mb => ?_
  try refine e_fl ?_
  refine e_list ?_
  refine e_box 2 rfl rfl rfl rfl (kn rfl) rfl rfl rfl rfl ?_
  refine l_as ?_
  refine e_nil ?_
  try refine e_fl ?_
  refine e_list ?_
  refine l_op (s_load1_box rfl (kn rfl) rfl rfl one_105) ?_
  refine l_op (s_loadn_box (ds := [_, _, _, _, _, _, _, _, _, _, _, _, _, _]) 14 rfl (kn rfl) rfl rfl agg_82 sz_82 rfl) ?_
  refine e_callci (zs := [_]) rfl rfl rfl rfl (by kernel_rfl) (hc) ⟨rfl, trivial⟩ trivial (kn rfl) ⟨(kn rfl), trivial⟩ rfl (YI.tidy) ?_
  rintro _ _ _ ⟨rfl, rfl, rfl⟩
  refine l_op (s_bin rfl (kn rfl) (kn rfl) v_eql) ?_
  refine l_as ?_
  refine e_nil ?_
  try refine e_fl ?_
  exact e_returnx (cBL 105 86 s) ([]) rfl (.tmp (kn rfl) (.nil)) (Imp.refl _) ⟨s_b, s_b, trivial⟩ trivial (⟨rfl, rfl, rfl⟩)
set_option maxRecDepth 100000 in
set_option maxHeartbeats 1000000 in
theorem idx_pairs_eg (s : St) (l : List (Vl × Vl)) (hl : l.length ≤ 1000000) (c : Vl × Vl → Int) (hc : ∀ x ∈ l, EG Tryz.prog [] 86 [.part (.many (pd x)), .box 50 0] (sBL s) [] (YI s (c x))) :
    EG Tryz.prog [] 111 [.part (.one (.row 14 l.length (l.flatMap pairDats))), .clo (.func 112) [] [.box 51 0]] (cBL 105 86 s) [] (YC 105 86 s (iP (fidx (fun x => decide (c x = 0)) l 0))) := by
  obtain ⟨p, hp⟩ : ∃ p : Vl × Vl → Bool, p = fun x => decide (c x = 0) := ⟨_, rfl⟩
  have hpx : ∀ x, p x = decide (c x = 0) := fun x => by rw [hp]
  rw [← hp]
  refine eg_enter 19 Tryz.func111 rfl rfl rfl fun w D bor mb => ?_
  try refine e_fl ?_
  refine e_plain (w_as rfl rfl rfl rfl rfl .nil) ?_
  try refine e_fl ?_
  refine e_plain (w_mv rfl rfl rfl rfl rfl (w_op rfl rfl rfl (s_len rfl (kn rfl) sle_25) (w_mv rfl rfl rfl rfl rfl .nil))) ?_
  try refine e_fl ?_
  refine e_loop (ι := { k : Nat // k ≤ l.length ∧ fidx p l 0 = fidx p (l.drop k) k })
    (fun k => [(0, .part (.one (.row 14 l.length (l.flatMap pairDats)))), (1, .clo (.func 112) [] [.box 51 0]), (7, .is (.int .i64 (l.length : Int))), (8, .is (.int .i64 (k.1 : Int)))])
    (fun _ => cBL 105 86 s) (fun _ => []) (fun k => l.length - k.1) ⟨0, by omega, rfl⟩
    (fun K => e_sub ⟨s_t, s_t, s_t, s_t, trivial⟩ ⟨s_b, s_b, trivial⟩ trivial) ?_
  rintro ⟨k, hk, hw⟩
  dsimp only at hk hw ⊢
  try refine e_fl ?_
  refine e_plain (w_op rfl rfl rfl (s_bin rfl (kn rfl) (kn rfl) v_lss) .nil) ?_
  try refine e_fl ?_
  refine e_cond rfl (fun h => ?_) (fun h => ?_)
  · have hlt : k < l.length := by have := of_decide_eq_true h; omega
    obtain ⟨x, hx⟩ : ∃ x, l[k]? = some x := ⟨_, List.getElem?_eq_getElem hlt⟩
    try refine e_fl ?_
    refine e_plain (w_mv rfl rfl rfl rfl rfl (w_as rfl rfl rfl rfl rfl .nil)) ?_
    try refine e_fl ?_
    refine e_list ?_
    refine l_mv ?_
    refine l_mv ?_
    refine l_mv ?_
    refine l_op (s_index rfl (kn rfl) (kn rfl) (by omega) hx pairDats_len sle_25 esz_25 (pairDats_vd x)) ?_
    refine l_op (s_loadn_ref rfl (kn rfl) agg_82 sz_82) ?_
    refine e_callci (zs := [_]) rfl rfl rfl rfl (by kernel_rfl) (two_pairs_eg s x (c x) (hc x (List.mem_of_getElem? hx))) ⟨rfl, rfl, trivial⟩ trivial (kn rfl) ⟨(kn rfl), trivial⟩ rfl (YC.tidyB) ?_
    rintro _ _ _ ⟨rfl, rfl, rfl⟩
    refine e_nil ?_
    try refine e_fl ?_
    refine e_cond rfl (fun h1 => ?_) (fun h1 => ?_)
    · have e := fidx_here hx hw (by rw [hpx]; exact h1)
      try refine e_fl ?_
      refine e_plain (w_mv rfl rfl rfl rfl rfl (w_as rfl rfl rfl rfl rfl .nil)) ?_
      try refine e_fl ?_
      exact e_returnx (cBL 105 86 s) ([]) rfl (.tmp (kn rfl) (.nil)) (Imp.refl _) ⟨s_b, s_b, trivial⟩ trivial (⟨by rw [e]; rfl, rfl, rfl⟩)
    try refine e_fl ?_
    refine e_plain (w_op rfl rfl rfl (s_bin rfl (kn rfl) (kn rfl) (v_add64 (by first | omega | (dsimp only; omega) | omega))) (w_mv rfl rfl rfl rfl rfl .nil)) ?_
    try refine e_fl ?_
    refine e_again ⟨k + 1, by omega, fidx_next hx hw (by rw [hpx]; exact h1)⟩ (by dsimp only; omega) (fun K => e_sub ⟨s_t, s_t, s_t, s_t, trivial⟩ ⟨s_b, s_b, trivial⟩ trivial)
  have e : fidx p l 0 = -1 := fidx_end (by have := of_decide_eq_false h; omega) hw
  try refine e_fl ?_
  refine e_plain (w_as rfl rfl rfl rfl rfl .nil) ?_
  try refine e_fl ?_
  exact e_returnx (cBL 105 86 s) ([]) rfl (.tmp (kn rfl) (.nil)) (Imp.refl _) ⟨s_b, s_b, trivial⟩ trivial (⟨by rw [e]; rfl, rfl, rfl⟩)
set_option maxRecDepth 100000 in
set_option maxHeartbeats 2000000 in
theorem bsc_pairs_eg (s : St) (l : List (Vl × Vl)) (hl : l.length ≤ 1000000) (c : Vl × Vl → Int) (hmono : ∀ (i j : Nat) x y, i ≤ j → l[i]? = some x → l[j]? = some y → c y < 0 → c x < 0) (hc : ∀ x ∈ l, EG Tryz.prog [] 86 [.part (.many (pd x)), .box 50 0] (sBL s) [] (YI s (c x))) :
    EG Tryz.prog [] 109 [.part (.one (.row 14 l.length (l.flatMap pairDats))), .part (iP 0), .clo (.func 110) [] [.box 51 0]] (cBL 105 86 s) [] (YT 105 86 s (gidx c l) (gfound c l)) := by
  refine eg_enter 49 Tryz.func109 rfl rfl rfl fun w D bor mb => ?_
  try refine e_fl ?_
  refine e_plain (w_as rfl rfl rfl rfl rfl (w_as rfl rfl rfl rfl rfl .nil)) ?_
  try refine e_fl ?_
  refine e_plain (w_mv rfl rfl rfl rfl rfl (w_op rfl rfl rfl (s_len rfl (kn rfl) sle_25) (w_as rfl rfl rfl rfl rfl .nil))) ?_
  try refine e_fl ?_
  refine e_plain (w_mv rfl rfl rfl rfl rfl (w_as rfl rfl rfl rfl rfl (w_as rfl rfl rfl rfl rfl .nil))) ?_
  try refine e_fl ?_
  refine e_loop (ι := { ij : Nat × Nat // ij.1 ≤ ij.2 ∧ ij.2 ≤ l.length ∧ (∀ (p : Nat) x, p < ij.1 → l[p]? = some x → c x < 0) ∧ ∀ (q : Nat) y, ij.2 ≤ q → l[q]? = some y → ¬ c y < 0 })
    (fun i => [(0, .part (.one (.row 14 l.length (l.flatMap pairDats)))), (1, .part (iP 0)), (2, .clo (.func 110) [] [.box 51 0]), (8, .is (.int .i64 (l.length : Int))), (9, .is (.int .i64 (i.1.1 : Int))), (10, .is (.int .i64 (i.1.2 : Int)))])
    (fun _ => cBL 105 86 s) (fun _ => []) (fun i => i.1.2 - i.1.1) ⟨(0, l.length), by omega, by omega, fun p x h => absurd h (by dsimp only; omega), fun q y h hy => by rw [List.getElem?_eq_none h] at hy; cases hy⟩
    (fun K => e_sub ⟨s_t, s_t, s_t, s_t, s_t, s_t, trivial⟩ ⟨s_b, s_b, trivial⟩ trivial) ?_
  rintro ⟨⟨i, j⟩, hij, hj, hlo, hhi⟩
  dsimp only at hij hj hlo hhi ⊢
  try refine e_fl ?_
  refine e_plain (w_mv rfl rfl rfl rfl rfl (w_mv rfl rfl rfl rfl rfl (w_op rfl rfl rfl (s_bin rfl (kn rfl) (kn rfl) v_lss) .nil))) ?_
  try refine e_fl ?_
  refine e_cond rfl (fun h => ?_) (fun h => ?_)
  · have hlt : i < j := by have := of_decide_eq_true h; omega
    obtain ⟨m, hm⟩ : ∃ m, m = (i + j) / 2 := ⟨_, rfl⟩
    have hmi : ((i : Int) + (j : Int)) / 2 = (m : Int) := by omega
    obtain ⟨x, hx⟩ : ∃ x, l[m]? = some x := ⟨_, List.getElem?_eq_getElem (by omega)⟩
    have hx' : l[(((i : Int) + (j : Int)) / 2).toNat]? = some x := by rw [hmi, Int.toNat_natCast]; exact hx
    try refine e_fl ?_
    refine e_plain (w_mv rfl rfl rfl rfl rfl (w_mv rfl rfl rfl rfl rfl (w_op rfl rfl rfl (s_bin rfl (kn rfl) (kn rfl) (v_add64 (by first | omega | (dsimp only; omega) | omega))) (w_op rfl rfl rfl (s_convk rfl (kn rfl) (by kernel_rfl) int_131 (by kernel_rfl) (wrap_u64 _ (by omega) (by omega))) (w_op rfl rfl rfl (s_bin rfl (kn rfl) (kn rfl) v_shr1) (w_op rfl rfl rfl (s_convk rfl (kn rfl) (by kernel_rfl) int_3 (by kernel_rfl) (wrap_in _ (by omega) (by omega))) (w_as rfl rfl rfl rfl rfl .nil))))))) ?_
    try refine e_fl ?_
    refine e_list ?_
    refine l_mv ?_
    refine l_mv ?_
    refine l_mv ?_
    refine l_op (s_index rfl (kn rfl) (kn rfl) (by omega) hx' pairDats_len sle_25 esz_25 (pairDats_vd x)) ?_
    refine l_op (s_loadn_ref rfl (kn rfl) agg_82 sz_82) ?_
    refine l_mv ?_
    refine e_callci (zs := [_, _]) rfl rfl rfl rfl (by kernel_rfl) (one_pairs_eg s x (c x) (hc x (List.mem_of_getElem? hx))) ⟨rfl, rfl, trivial⟩ trivial (kn rfl) ⟨(kn rfl), ⟨(kn rfl), trivial⟩⟩ rfl (YC.tidyI) ?_
    rintro _ _ _ ⟨rfl, rfl, rfl⟩
    refine l_op (s_bin rfl (kn rfl) (kn rfl) v_lss) ?_
    refine e_nil ?_
    try refine e_fl ?_
    refine e_cond rfl (fun h1 => ?_) (fun h1 => ?_)
    · try refine e_fl ?_
      refine e_plain (w_mv rfl rfl rfl rfl rfl (w_op rfl rfl rfl (s_bin rfl (kn rfl) (kn rfl) (v_add64 (by first | omega | (dsimp only; omega) | omega))) (w_as rfl rfl rfl rfl rfl .nil))) ?_
      try refine e_fl ?_
      refine e_again ⟨(m + 1, j), by dsimp only; omega, hj, fun p y hp hy => hmono p m y x (by dsimp only at hp; omega) hy hx (of_decide_eq_true h1), hhi⟩ (by dsimp only; omega) (fun K => e_sub ⟨s_t, s_t, s_t, s_t, ⟨_, rfl, kIf (by dsimp only; omega)⟩, s_t, trivial⟩ ⟨s_b, s_b, trivial⟩ trivial)
    · try refine e_fl ?_
      refine e_plain (w_mv rfl rfl rfl rfl rfl (w_as rfl rfl rfl rfl rfl .nil)) ?_
      try refine e_fl ?_
      refine e_again ⟨(i, m), by dsimp only; omega, by dsimp only; omega, hlo, fun q y hq hy hn => of_decide_eq_false h1 (hmono m q x y hq hx hy hn)⟩ (by dsimp only; omega) (fun K => e_sub ⟨s_t, s_t, s_t, s_t, s_t, ⟨_, rfl, kIf hmi⟩, trivial⟩ ⟨s_b, s_b, trivial⟩ trivial)
  obtain rfl : i = j := by have := of_decide_eq_false h; omega
  have hg : gidx c l = i := gidx_of hj hlo (fun x hx => hhi i x (Nat.le_refl _) hx)
  clear h
  have hget : decide ((i : Int) < (l.length : Int)) = true → l[(i : Int).toNat]? = some (l.getD i default) := fun h => getD_some' (by have := of_decide_eq_true h; omega)
  have hgn : decide ((i : Int) < (l.length : Int)) = decide (i < l.length) := decide_eq_decide.2 (by omega)
  try refine e_fl ?_
  refine e_list ?_
  refine l_mv ?_
  refine l_mv ?_
  refine l_mv ?_
  refine l_op (s_bin rfl (kn rfl) (kn rfl) v_lss) ?_
  refine l_mv ?_
  refine e_list_gd rfl rfl rfl (fun h => s_move rfl (kn rfl)) ?_
  refine e_list_gd rfl rfl rfl (fun h => s_move rfl (kn rfl)) ?_
  refine e_list_gd rfl rfl rfl (fun h => s_move rfl (kn rfl)) ?_
  refine e_list_gd rfl rfl rfl (fun h => s_index rfl (kn_opt rfl h) (kn_opt rfl h) (by omega) (hget h) pairDats_len sle_25 esz_25 (pairDats_vd _)) ?_
  refine e_list_gd rfl rfl rfl (fun h => s_loadn_ref rfl (kn_opt rfl h) agg_82 sz_82) ?_
  refine e_list_gd rfl rfl rfl (fun h => s_move rfl (kn rfl)) ?_
  refine e_guard rfl rfl rfl (fun hgt => ?_) (fun hgf => ?_)
  · have hE1 := one_pairs_eg s (l.getD i default) (c (l.getD i default)) (hc _ (List.mem_of_getElem? (hget hgt)))
    refine e_callci (zs := [_, _]) rfl rfl rfl rfl (by kernel_rfl) hE1 ⟨rfl, rfl, trivial⟩ trivial (kn_opt rfl hgt) ⟨kn_opt rfl hgt, kn_opt rfl hgt, trivial⟩ rfl YC.tidyI ?_
    rintro _ _ _ ⟨rfl, rfl, rfl⟩
    refine e_list_gd rfl rfl rfl (fun h => s_bin rfl (kn rfl) (kn rfl) v_eql) ?_
    refine l_op (s_and rfl (kn rfl) (fun hb => kn_opt rfl hb)) ?_
    refine l_as ?_
    refine l_as ?_
    refine e_nil ?_
    try refine e_fl ?_
    exact e_returnx (cBL 105 86 s) ([]) rfl (.tmp (kn rfl) (.tmp (kn rfl) (.nil))) (Imp.refl _) ⟨s_b, s_b, trivial⟩ trivial (⟨by rw [← hg]; unfold gfound; rw [hg, ← hgn]; rfl, rfl, rfl⟩)
  · refine e_list_gd rfl rfl rfl (fun h => (show LStep Tryz.prog _ _ _ _ _ (.is (.bool false)) from absurd h (by rw [hgf]; decide))) ?_
    refine l_op (s_and rfl (kn rfl) (fun hb => kn_opt rfl hb)) ?_
    refine l_as ?_
    refine l_as ?_
    refine e_nil ?_
    try refine e_fl ?_
    exact e_returnx (cBL 105 86 s) ([]) rfl (.tmp (kn rfl) (.tmp (kn rfl) (.nil))) (Imp.refl _) ⟨s_b, s_b, trivial⟩ trivial (⟨by rw [← hg]; unfold gfound; rw [hg, ← hgn, hgf]; rfl, rfl, rfl⟩)
set_option maxRecDepth 100000 in
set_option maxHeartbeats 1000000 in
theorem place_pairs_eg (s : St) (l : List (Vl × Vl)) (hl : l.length ≤ 1000000) (c : Vl × Vl → Int) (hmono : ∀ (i j : Nat) x y, i ≤ j → l[i]? = some x → l[j]? = some y → c y < 0 → c x < 0) (hno : gfound c l = false → ∀ x ∈ l, c x ≠ 0) (hc : ∀ x ∈ l, EG Tryz.prog [] 86 [.part (.many (pd x)), .box 50 0] (sBL s) [] (YI s (c x))) :
    EG Tryz.prog [] 85 [.part (.one (.row 14 l.length (l.flatMap pairDats))), .clo (.func 86) [] [.box 50 0]] (sBL s) [] (YI s (if gfound c l then (gidx c l : Int) else -1)) := by
  refine eg_enter 18 Tryz.func85 rfl rfl rfl fun w D bor mb => ?_
  try refine e_fl ?_
  refine e_list ?_
  refine e_boxi 51 rfl rfl rfl rfl (kn rfl) rfl rfl rfl rfl rfl ?_
  refine l_as ?_
  refine e_nil ?_
  try refine e_fl ?_
  refine e_list ?_
  refine l_mv ?_
  refine l_op (s_func (fs := []) (cs := [.box 51 0]) rfl trivial ⟨kn rfl, trivial⟩) ?_
  refine e_calli rfl rfl rfl rfl (by kernel_rfl) (bsc_pairs_eg s l hl c hmono hc) ⟨rfl, rfl, trivial⟩ trivial ⟨(kn rfl), ⟨(kn rfl), ⟨(kn rfl), trivial⟩⟩⟩ (YT.tidy) ?_
  rintro _ _ _ ⟨rfl, rfl, rfl⟩
  refine l_mv ?_
  refine l_ex ?_
  refine l_ex ?_
  refine l_as ?_
  refine l_as ?_
  refine e_nil ?_
  try refine e_fl ?_
  refine e_plain (w_mv rfl rfl rfl rfl rfl .nil) ?_
  try refine e_fl ?_
  refine e_cond rfl (fun h => ?_) (fun h => ?_)
  · try refine e_fl ?_
    refine e_plain (w_mv rfl rfl rfl rfl rfl (w_as rfl rfl rfl rfl rfl .nil)) ?_
    try refine e_fl ?_
    exact e_returnx (sBL s) ([]) rfl (.tmp (kn rfl) (.nil)) (Imp.refl _) ⟨s_b, trivial⟩ trivial (⟨by rw [h]; rfl, rfl, rfl⟩)
  have hf : fidx (fun x => decide (c x = 0)) l 0 = -1 := by
    have h1 := fidx_any (p := fun x => decide (c x = 0)) l 0
    have h2 : (l.any fun x => decide (c x = 0)) = false := by
      rw [List.any_eq_false]
      intro x hx
      simpa using hno h x hx
    rw [h2] at h1
    have h3 := of_decide_eq_false h1
    have h4 := fidx_ge (fun x => decide (c x = 0)) l 0
    omega
  try refine e_fl ?_
  refine e_list ?_
  refine l_mv ?_
  refine l_op (s_func (fs := []) (cs := [.box 51 0]) rfl trivial ⟨kn rfl, trivial⟩) ?_
  refine e_calli rfl rfl rfl rfl (by kernel_rfl) (idx_pairs_eg s l hl c hc) ⟨rfl, rfl, trivial⟩ trivial ⟨(kn rfl), ⟨(kn rfl), trivial⟩⟩ (YC.tidyI) ?_
  rintro _ _ _ ⟨rfl, rfl, rfl⟩
  refine l_as ?_
  refine e_nil ?_
  try refine e_fl ?_
  exact e_returnx (sBL s) ([]) rfl (.tmp (kn rfl) (.nil)) (Imp.refl _) ⟨s_b, trivial⟩ trivial (⟨by rw [h, hf]; rfl, rfl, rfl⟩)
end Go.Proofs.YtagoikglbifhmaaGreatDoor
