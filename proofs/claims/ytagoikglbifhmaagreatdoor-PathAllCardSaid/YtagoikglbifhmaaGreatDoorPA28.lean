/- Part 28 of what the last text of this claim is proved by: walks over the program, and the math behind them. Conditions: as each theorem says. -/
import Derived.Test.YtagoikglbifhmaaGreatDoorPA27
import Derived.Test.YtagoikglbifhmaaGreatDoorProg
namespace Go.Proofs.YtagoikglbifhmaaGreatDoor
open Go.RowKit
abbrev pD (p : List St) : Dat := .row 10 p.length (p.flatMap stDats)
abbrev lR (L : List (List St)) : Rw := ⟨29, 1, L.length, L.map pD, false⟩
abbrev tR (p : List St) : Rw := ⟨62, 10, p.length, p.flatMap stDats, false⟩
abbrev x60 : Bx := ⟨49, [.own 1000]⟩
abbrev x61 : Bx := ⟨89, [.clo (.func 41) [] [.box 60 0, .box 61 0]]⟩
abbrev x62 (v0 : Value) : Bx := ⟨29, [atv 1001 v0]⟩
abbrev wB : BL := [(60, x60), (61, x61)]
abbrev dB (v0 : Value) : BL := [(60, x60), (61, x61), (62, x62 v0)]
abbrev wR (L : List (List St)) (p : List St) : RL := [(1000, lR L), (1001, tR p)]
abbrev YW (v0 : Value) (L : List (List St)) (p : List St) (y : IV) (B1 : BL) (R1 : RL) : Prop := y = pinv 1001 v0 ∧ B1 = wB ∧ R1 = wR L p
abbrev YD (v0 : Value) (L : List (List St)) (p : List St) (y : IV) (B1 : BL) (R1 : RL) : Prop := y = .tup [] ∧ B1 = dB v0 ∧ R1 = wR L p
theorem YW.tidy {v0 : Value} {L L' : List (List St)} {p : List St} (y : IV) (B1 : BL) (R1 : RL) (h : YW v0 L' p y B1 R1) : Tidy wB (wR L p) y B1 R1 := by
  obtain ⟨rfl, rfl, rfl⟩ := h
  exact ⟨rfl, rfl, rfl, rfl⟩
theorem YD.tidy {v0 : Value} {L L' : List (List St)} {p : List St} (y : IV) (B1 : BL) (R1 : RL) (h : YD v0 L' p y B1 R1) : Tidy (dB v0) (wR L p) y B1 R1 := by
  obtain ⟨rfl, rfl, rfl⟩ := h
  exact ⟨rfl, rfl, rfl, rfl⟩
def rn (a b i : Nat) : Nat := bif Nat.beq i a then b else i
theorem lent_w {B : BL} {R : RL} {L : List (List St)} {p : List St} (h60 : lk 60 B = some x60) (h61 : lk 61 B = some x61) (h1 : lk 1000 R = some (lR L)) (h2 : lk 1002 R = some (tR p)) : Lent B R (fun b => b) (rn 1001 1002) wB (wR L p) := by
  refine ⟨fun b x hx => ?_, fun r x hx => ?_, fun a ha b hb e => e, fun a ha b hb e => ?_⟩
  · rcases lk_cons hx with ⟨rfl, rfl⟩ | ⟨_, hx⟩
    · exact h60
    rcases lk_cons hx with ⟨rfl, rfl⟩ | ⟨_, hx⟩
    · exact h61
    cases hx
  · rcases lk_cons hx with ⟨rfl, rfl⟩ | ⟨_, hx⟩
    · exact h1
    rcases lk_cons hx with ⟨rfl, rfl⟩ | ⟨_, hx⟩
    · exact h2
    cases hx
  · have ha' : a = 1000 ∨ a = 1001 := by simpa [names] using ha
    have hb' : b = 1000 ∨ b = 1001 := by simpa [names] using hb
    rcases ha' with rfl | rfl <;> rcases hb' with rfl | rfl <;> first | rfl | exact absurd e (by decide)
theorem lent_d {B : BL} {R : RL} {v0 : Value} {L : List (List St)} {p : List St} (h60 : lk 60 B = some x60) (h61 : lk 61 B = some x61) (h4 : lk 4 B = some (x62 v0)) (h1 : lk 1000 R = some (lR L)) (h2 : lk 1001 R = some (tR p)) : Lent B R (rn 62 4) (fun r => r) (dB v0) (wR L p) := by
  refine ⟨fun b x hx => ?_, fun r x hx => ?_, fun a ha b hb e => ?_, fun a ha b hb e => e⟩
  · rcases lk_cons hx with ⟨rfl, rfl⟩ | ⟨_, hx⟩
    · exact h60
    rcases lk_cons hx with ⟨rfl, rfl⟩ | ⟨_, hx⟩
    · exact h61
    rcases lk_cons hx with ⟨rfl, rfl⟩ | ⟨_, hx⟩
    · exact h4
    cases hx
  · rcases lk_cons hx with ⟨rfl, rfl⟩ | ⟨_, hx⟩
    · exact h1
    rcases lk_cons hx with ⟨rfl, rfl⟩ | ⟨_, hx⟩
    · exact h2
    cases hx
  · have ha' : a = 60 ∨ a = 61 ∨ a = 62 := by simpa [names] using ha
    have hb' : b = 60 ∨ b = 61 ∨ b = 62 := by simpa [names] using hb
    rcases ha' with rfl | rfl | rfl <;> rcases hb' with rfl | rfl | rfl <;> first | rfl | exact absurd e (by decide)
theorem steps_one (p : List St) : (p.flatMap stDats).all Dat.isOne = true := by
  rw [List.all_eq_true]
  intro d hd
  obtain ⟨s, _, hs⟩ := List.mem_flatMap.1 hd
  rw [stDats_sd] at hs
  have : (sd s).all Dat.isOne = true := rfl
  exact List.all_eq_true.1 this d hs
theorem cells_one1 {cs : List Value} (h : ∀ c ∈ cs, c.oneCell' = true) : (cs.map Dat.cell).all Dat.isOne = true := by
  rw [List.all_map, List.all_eq_true]
  exact h
theorem to_len (p : List St) (q : St) : p.length + 1 = (p ++ [q]).length := by simp
theorem to_flat (p : List St) (q : St) : p.flatMap stDats ++ sd q = (p ++ [q]).flatMap stDats := by rw [List.flatMap_append, ← stDats_sd]; simp
theorem flat_stl (p : List St) : (p.flatMap stDats).length = p.length * 10 := by
  induction p with
  | nil => rfl
  | cons s p ih => rw [List.flatMap_cons, List.length_append, ih, stDats_len, List.length_cons]; omega
set_option maxRecDepth 100000 in
theorem pclone_eo (gls : List (Nat × List Value)) (n : Nat) (hn : n ≤ 1000000) (cs : List Value) (h1 : ∀ c ∈ cs, c.oneCell' = true) (hl : cs.length = n * 10) : EO Tryz.prog gls 42 [.one (.row 10 n (cs.map .cell))] 62 10 n cs := by
  refine eo_enter 8 Tryz.func42 rfl rfl rfl fun w D => ?_
  try refine e_fl ?_
  refine e_plain (w_as rfl rfl rfl rfl rfl .nil) ?_
  try refine e_fl ?_
  refine e_list ?_
  refine l_mv ?_
  refine e_isnil rfl rfl rfl rfl (kn rfl) sl_29 (fun h0 => ?_) ?_
  refine e_nil ?_
  try refine e_fl ?_
  · subst h0
    obtain rfl : cs = [] := List.eq_nil_of_length_eq_zero (by omega)
    refine c_yes ?_
    try refine e_fl ?_
    refine e_plain (w_as rfl rfl rfl rfl rfl .nil) ?_
    try refine e_fl ?_
    refine e_row_slot 2 100 62 10 rfl rfl rfl ?_
    exact e_return_own rfl rfl rfl rfl (rfl) rfl
  refine c_no ?_
  try refine e_fl ?_
  refine e_list ?_
  refine e_made 100 rfl rfl rfl rfl sl_29 ap_29 rfl rfl ?_
  refine l_mv ?_
  refine e_append rfl rfl rfl rfl (kn rfl) rfl (kn rfl) sl_29 ap_29 rfl (cells_one1 h1) (by first | omega | (dsimp only; omega) | omega) (by first | omega | (dsimp only; omega) | omega) ?_
  refine l_as ?_
  refine e_nil ?_
  try refine e_fl ?_
  refine e_req (Nat.zero_add n) (List.nil_append _) ?_
  exact e_return_own rfl rfl rfl rfl (rfl) rfl
def PWalk (v : Vl) : Prop := ∀ (p : List St) (L : List (List St)) (v0 : Value), p.length + vnodes v ≤ 1000000 → L.length + vnodes v ≤ 1000000 → v0.oneCell' = true → EG Tryz.prog [] 41 [atv 1001 v0, .part (.many (vd v)), .box 60 0, .box 61 0] wB (wR L p) (YW v0 (L ++ (allP v).map (p ++ ·)) p)
set_option maxRecDepth 100000 in
set_option maxHeartbeats 4000000 in
theorem dclo_eg (q : St) (x : Vl) (hx : PWalk x) (p : List St) (L : List (List St)) (v0 : Value) (hp : p.length + 1 + vnodes x ≤ 1000000) (hL : L.length + vnodes x ≤ 1000000) : EG Tryz.prog [] 44 [.part (.many (sd q)), .part (.many (vd x)), .box 61 0, .box 62 0] (dB v0) (wR L p) (YD v0 (L ++ (allP x).map ((p ++ [q]) ++ ·)) p) := by
  have hs1 : (p ++ [q]).length + vnodes x ≤ 1000000 := by rw [← to_len]; exact hp
  have hone : (sd q).all Dat.isOne = true := rfl
  refine eg_enter 13 Tryz.func44 rfl rfl rfl fun w D bor mb => ?_
  try refine e_fl ?_
  refine e_list ?_
  refine e_box 4 rfl rfl rfl rfl (kn rfl) rfl rfl rfl rfl ?_
  refine e_box 5 rfl rfl rfl rfl (kn rfl) rfl rfl rfl rfl ?_
  refine e_nil ?_
  try refine e_fl ?_
  by_cases hroom : Room v0 p.length 1
  · refine e_sub (T' := [(2, .box 61 0), (3, .box 62 0), (4, .box 4 0), (5, .box 5 0)]) (B' := [(4, ⟨62, bcs (sd q)⟩), (5, ⟨27, bcs (vd x)⟩), (60, x60), (61, x61), (62, x62 v0)]) (R' := wR L p) ⟨s_t, s_t, s_t, s_t, trivial⟩ ⟨s_b, s_b, s_b, s_b, s_b, trivial⟩ ⟨rfl, rfl, trivial⟩ ?_
    refine e_draw_sr 7 [[], [], [], [2], [1, 3], [], [0, 4, 5, 4]] [[false, false, false, false, false, false, false], [true, false, false, false, false, false, false], [false, true, false, false, false, false, false], [false, false, true, false, false, false, false], [false, false, false, false, false, true, false], [true, true, false, false, false, false, false], [true, false, true, false, false, false, false], [true, false, false, false, false, true, false], [false, true, true, false, false, false, false], [false, true, false, false, false, true, false], [false, false, true, true, false, false, false], [false, false, true, false, false, true, false], [true, true, true, false, false, false, false], [true, true, false, false, false, true, false], [true, false, true, true, false, false, false], [true, false, true, false, false, true, false], [false, true, true, true, false, false, false], [false, true, true, false, false, true, false], [false, false, true, true, false, true, false], [true, true, true, true, false, false, false], [true, true, true, false, false, true, false], [true, false, true, true, false, true, false], [false, true, true, true, true, false, false], [false, true, true, true, false, true, false], [true, true, true, true, true, false, false], [true, true, true, true, false, true, false], [false, true, true, true, true, true, false], [true, true, true, true, true, true, false], [true, true, true, true, true, true, true]] [([false, false, false, false, false, false, false], 0), ([false, false, false, false, false, false, false], 1), ([false, false, false, false, false, false, false], 2), ([false, false, false, false, false, false, false], 5), ([true, false, false, false, false, false, false], 1), ([true, false, false, false, false, false, false], 2), ([true, false, false, false, false, false, false], 5), ([false, true, false, false, false, false, false], 0), ([false, true, false, false, false, false, false], 2), ([false, true, false, false, false, false, false], 5), ([false, false, true, false, false, false, false], 0), ([false, false, true, false, false, false, false], 1), ([false, false, true, false, false, false, false], 3), ([false, false, true, false, false, false, false], 5), ([false, false, false, false, false, true, false], 0), ([false, false, false, false, false, true, false], 1), ([false, false, false, false, false, true, false], 2), ([true, true, false, false, false, false, false], 2), ([true, true, false, false, false, false, false], 5), ([true, false, true, false, false, false, false], 1), ([true, false, true, false, false, false, false], 3), ([true, false, true, false, false, false, false], 5), ([true, false, false, false, false, true, false], 1), ([true, false, false, false, false, true, false], 2), ([false, true, true, false, false, false, false], 0), ([false, true, true, false, false, false, false], 3), ([false, true, true, false, false, false, false], 5), ([false, true, false, false, false, true, false], 0), ([false, true, false, false, false, true, false], 2), ([false, false, true, true, false, false, false], 0), ([false, false, true, true, false, false, false], 1), ([false, false, true, true, false, false, false], 5), ([false, false, true, false, false, true, false], 0), ([false, false, true, false, false, true, false], 1), ([false, false, true, false, false, true, false], 3), ([true, true, true, false, false, false, false], 3), ([true, true, true, false, false, false, false], 5), ([true, true, false, false, false, true, false], 2), ([true, false, true, true, false, false, false], 1), ([true, false, true, true, false, false, false], 5), ([true, false, true, false, false, true, false], 1), ([true, false, true, false, false, true, false], 3), ([false, true, true, true, false, false, false], 0), ([false, true, true, true, false, false, false], 4), ([false, true, true, true, false, false, false], 5), ([false, true, true, false, false, true, false], 0), ([false, true, true, false, false, true, false], 3), ([false, false, true, true, false, true, false], 0), ([false, false, true, true, false, true, false], 1), ([true, true, true, true, false, false, false], 4), ([true, true, true, true, false, false, false], 5), ([true, true, true, false, false, true, false], 3), ([true, false, true, true, false, true, false], 1), ([false, true, true, true, true, false, false], 0), ([false, true, true, true, true, false, false], 5), ([false, true, true, true, false, true, false], 0), ([false, true, true, true, false, true, false], 4), ([true, true, true, true, true, false, false], 5), ([true, true, true, true, false, true, false], 4), ([false, true, true, true, true, true, false], 0), ([true, true, true, true, true, true, false], 6)] [(6, 12, pinv 1001 (upv v0 1)), (6, 10, .junk), (4, 10, atv 1001 (upv v0 1)), (4, 7, .junk), (0, 6, .clo (.func 41) [] [.box 60 0, .box 61 0]), (1, 7, atv 1001 v0), (2, 8, .part (.many (sd q))), (3, 9, .part (.one (.row 10 1 (sd q)))), (5, 11, .part (.many (vd x)))] [(4, 62, ⟨29, [.is v0]⟩)] [(6, 1000, lR (L ++ (allP x).map ((p ++ [q]) ++ ·))), (4, 1001, tR (p ++ [q]))] [(2, .box 61 0), (3, .box 62 0), (4, .box 4 0), (5, .box 5 0)] [(4, ⟨62, bcs (sd q)⟩), (5, ⟨27, bcs (vd x)⟩), (60, x60), (61, x61), (62, x62 v0)] [(1000, lR L), (1001, tR p)] (by kernel_rfl) rfl mixed (by kernel_rfl) (by decide) (fun K h => h) ?_ ?_
    · repeat' first
        | exact trivial
        | refine And.intro ?_ ?_
      all_goals
        intro K hK
        replace hK := e_ddR (e_dd hK)
        first
          | (refine e_opi (i := 0) rfl (fun h => h) ?_; refine l_op (s_load1_box rfl (kn rfl) rfl rfl one_89) ?_; refine e_nil ?_; refine e_fl ?_; exact e_subR hK (by repeat' first | exact trivial | refine And.intro s_t ?_) (by repeat' first | exact trivial | refine And.intro s_b ?_) (by repeat' first | exact trivial | refine And.intro rfl ?_))
          | (refine e_opi (i := 1) rfl (fun h => h) ?_; refine l_op (s_load1_box rfl (kn rfl) rfl rfl one_29) ?_; refine e_nil ?_; refine e_fl ?_; exact e_subR hK (by repeat' first | exact trivial | refine And.intro s_t ?_) (by repeat' first | exact trivial | refine And.intro s_b ?_) (by repeat' first | exact trivial | refine And.intro rfl ?_))
          | (refine e_opi (i := 2) rfl (fun h => h) ?_; refine l_op (s_loadn_box (ds := [_, _, _, _, _, _, _, _, _, _]) 10 rfl (kn rfl) rfl rfl agg_62 sz_62 rfl) ?_; refine e_nil ?_; refine e_fl ?_; exact e_subR hK (by repeat' first | exact trivial | refine And.intro s_t ?_) (by repeat' first | exact trivial | refine And.intro s_b ?_) (by repeat' first | exact trivial | refine And.intro rfl ?_))
          | (refine e_opi (i := 3) rfl (fun h => h) ?_; refine l_op (s_buildSlice (ds := [_, _, _, _, _, _, _, _, _, _]) [(0, _)] rfl ⟨rfl, (kn rfl), trivial⟩ rfl sl_29 sz_62 zr_62 (fun w D => .cons (.cell _) (.cons (.cell _) (.cons (.cell _) (.cons (.cell _) (.cons (.cell _) (.cons (.cell _) (.cons (.cell _) (.cons (.cell _) (.cons (.cell _) (.cons (.cell _) (.nil _ _))))))))))) rfl rfl rfl rfl rfl) ?_; refine e_nil ?_; refine e_fl ?_; exact e_subR hK (by repeat' first | exact trivial | refine And.intro s_t ?_) (by repeat' first | exact trivial | refine And.intro s_b ?_) (by repeat' first | exact trivial | refine And.intro rfl ?_))
          | (refine e_opi (i := 4) rfl (fun h => h) ?_; refine e_cells 62 [.is v0] rfl ⟨atv_is _ _, trivial⟩ ?_; refine e_app_room rfl rfl rfl rfl (kn rfl) rfl (kn rfl) hroom (by decide) hone sl_29 ap_29 ?_; refine e_req (to_len p q) (to_flat p q) ?_; refine e_nil ?_; refine e_fl ?_; exact e_subR hK (by repeat' first | exact trivial | refine And.intro s_t ?_) (by repeat' first | exact trivial | refine And.intro s_b ?_) (by repeat' first | exact trivial | refine And.intro rfl ?_))
          | (refine e_opi (i := 5) rfl (fun h => h) ?_; refine l_op (s_loadn_box (ds := [_, _, _, _, _, _, _]) 7 rfl (kn rfl) rfl rfl agg_27 sz_27 rfl) ?_; refine e_nil ?_; refine e_fl ?_; exact e_subR hK (by repeat' first | exact trivial | refine And.intro s_t ?_) (by repeat' first | exact trivial | refine And.intro s_b ?_) (by repeat' first | exact trivial | refine And.intro rfl ?_))
          | (refine e_opi (i := 6) rfl (fun h => h) ?_; refine e_callci (zs := [_, _]) rfl rfl rfl rfl (by kernel_rfl) (hx (p ++ [q]) L (upv v0 1) hs1 hL (upv_one hroom)) ⟨rfl, rfl, trivial⟩ ⟨rfl, rfl, trivial⟩ (kn rfl) ⟨(kn rfl), ⟨(kn rfl), trivial⟩⟩ rfl (YW.tidy) ?_; rintro _ _ _ ⟨rfl, rfl, rfl⟩; refine e_nil ?_; refine e_fl ?_; exact e_subR hK (by repeat' first | exact trivial | refine And.intro s_t ?_) (by repeat' first | exact trivial | refine And.intro s_b ?_) (by repeat' first | exact trivial | refine And.intro rfl ?_))
    try refine e_fl ?_
    refine e_trunc 9999 (t := 12) (m := 1) rfl (rowEq rfl (to_len p q).symm (to_flat p q).symm) hroom (flat_stl p) ?_
    refine e_repin (t := 9999) (b := 62) rfl rfl rfl ?_
    exact e_endx (dB v0) (wR (L ++ (allP x).map ((p ++ [q]) ++ ·)) p) rfl .nil (Imp.refl _) ⟨s_b, s_b, s_b, trivial⟩ ⟨rfl, rfl, trivial⟩ ⟨rfl, rfl, rfl⟩
  · refine e_sub (T' := [(2, .box 61 0), (3, .box 62 0), (4, .box 4 0), (5, .box 5 0)]) (B' := [(4, ⟨62, bcs (sd q)⟩), (5, ⟨27, bcs (vd x)⟩), (60, x60), (61, x61), (62, x62 v0)]) (R' := wR L p) ⟨s_t, s_t, s_t, s_t, trivial⟩ ⟨s_b, s_b, s_b, s_b, s_b, trivial⟩ ⟨rfl, rfl, trivial⟩ ?_
    refine e_draw_sr 7 [[], [], [], [2], [1, 3], [], [0, 4, 5, 4]] [[false, false, false, false, false, false, false], [true, false, false, false, false, false, false], [false, true, false, false, false, false, false], [false, false, true, false, false, false, false], [false, false, false, false, false, true, false], [true, true, false, false, false, false, false], [true, false, true, false, false, false, false], [true, false, false, false, false, true, false], [false, true, true, false, false, false, false], [false, true, false, false, false, true, false], [false, false, true, true, false, false, false], [false, false, true, false, false, true, false], [true, true, true, false, false, false, false], [true, true, false, false, false, true, false], [true, false, true, true, false, false, false], [true, false, true, false, false, true, false], [false, true, true, true, false, false, false], [false, true, true, false, false, true, false], [false, false, true, true, false, true, false], [true, true, true, true, false, false, false], [true, true, true, false, false, true, false], [true, false, true, true, false, true, false], [false, true, true, true, true, false, false], [false, true, true, true, false, true, false], [true, true, true, true, true, false, false], [true, true, true, true, false, true, false], [false, true, true, true, true, true, false], [true, true, true, true, true, true, false], [true, true, true, true, true, true, true]] [([false, false, false, false, false, false, false], 0), ([false, false, false, false, false, false, false], 1), ([false, false, false, false, false, false, false], 2), ([false, false, false, false, false, false, false], 5), ([true, false, false, false, false, false, false], 1), ([true, false, false, false, false, false, false], 2), ([true, false, false, false, false, false, false], 5), ([false, true, false, false, false, false, false], 0), ([false, true, false, false, false, false, false], 2), ([false, true, false, false, false, false, false], 5), ([false, false, true, false, false, false, false], 0), ([false, false, true, false, false, false, false], 1), ([false, false, true, false, false, false, false], 3), ([false, false, true, false, false, false, false], 5), ([false, false, false, false, false, true, false], 0), ([false, false, false, false, false, true, false], 1), ([false, false, false, false, false, true, false], 2), ([true, true, false, false, false, false, false], 2), ([true, true, false, false, false, false, false], 5), ([true, false, true, false, false, false, false], 1), ([true, false, true, false, false, false, false], 3), ([true, false, true, false, false, false, false], 5), ([true, false, false, false, false, true, false], 1), ([true, false, false, false, false, true, false], 2), ([false, true, true, false, false, false, false], 0), ([false, true, true, false, false, false, false], 3), ([false, true, true, false, false, false, false], 5), ([false, true, false, false, false, true, false], 0), ([false, true, false, false, false, true, false], 2), ([false, false, true, true, false, false, false], 0), ([false, false, true, true, false, false, false], 1), ([false, false, true, true, false, false, false], 5), ([false, false, true, false, false, true, false], 0), ([false, false, true, false, false, true, false], 1), ([false, false, true, false, false, true, false], 3), ([true, true, true, false, false, false, false], 3), ([true, true, true, false, false, false, false], 5), ([true, true, false, false, false, true, false], 2), ([true, false, true, true, false, false, false], 1), ([true, false, true, true, false, false, false], 5), ([true, false, true, false, false, true, false], 1), ([true, false, true, false, false, true, false], 3), ([false, true, true, true, false, false, false], 0), ([false, true, true, true, false, false, false], 4), ([false, true, true, true, false, false, false], 5), ([false, true, true, false, false, true, false], 0), ([false, true, true, false, false, true, false], 3), ([false, false, true, true, false, true, false], 0), ([false, false, true, true, false, true, false], 1), ([true, true, true, true, false, false, false], 4), ([true, true, true, true, false, false, false], 5), ([true, true, true, false, false, true, false], 3), ([true, false, true, true, false, true, false], 1), ([false, true, true, true, true, false, false], 0), ([false, true, true, true, true, false, false], 5), ([false, true, true, true, false, true, false], 0), ([false, true, true, true, false, true, false], 4), ([true, true, true, true, true, false, false], 5), ([true, true, true, true, false, true, false], 4), ([false, true, true, true, true, true, false], 0), ([true, true, true, true, true, true, false], 6)] [(6, 10, .junk), (4, 10, .own 1002), (0, 6, .clo (.func 41) [] [.box 60 0, .box 61 0]), (1, 7, atv 1001 v0), (2, 8, .part (.many (sd q))), (3, 9, .part (.one (.row 10 1 (sd q)))), (5, 11, .part (.many (vd x)))] [] [(6, 1000, lR (L ++ (allP x).map ((p ++ [q]) ++ ·))), (4, 1002, tR (p ++ [q]))] [(2, .box 61 0), (3, .box 62 0), (4, .box 4 0), (5, .box 5 0)] [(4, ⟨62, bcs (sd q)⟩), (5, ⟨27, bcs (vd x)⟩), (60, x60), (61, x61), (62, x62 v0)] [(1000, lR L), (1001, tR p)] (by kernel_rfl) rfl mixed (by kernel_rfl) (by decide) (fun K h => h) ?_ ?_
    · repeat' first
        | exact trivial
        | refine And.intro ?_ ?_
      all_goals
        intro K hK
        replace hK := e_ddR (e_dd hK)
        first
          | (refine e_opi (i := 0) rfl (fun h => h) ?_; refine l_op (s_load1_box rfl (kn rfl) rfl rfl one_89) ?_; refine e_nil ?_; refine e_fl ?_; exact e_subR hK (by repeat' first | exact trivial | refine And.intro s_t ?_) (by repeat' first | exact trivial | refine And.intro s_b ?_) (by repeat' first | exact trivial | refine And.intro rfl ?_))
          | (refine e_opi (i := 1) rfl (fun h => h) ?_; refine l_op (s_load1_box rfl (kn rfl) rfl rfl one_29) ?_; refine e_nil ?_; refine e_fl ?_; exact e_subR hK (by repeat' first | exact trivial | refine And.intro s_t ?_) (by repeat' first | exact trivial | refine And.intro s_b ?_) (by repeat' first | exact trivial | refine And.intro rfl ?_))
          | (refine e_opi (i := 2) rfl (fun h => h) ?_; refine l_op (s_loadn_box (ds := [_, _, _, _, _, _, _, _, _, _]) 10 rfl (kn rfl) rfl rfl agg_62 sz_62 rfl) ?_; refine e_nil ?_; refine e_fl ?_; exact e_subR hK (by repeat' first | exact trivial | refine And.intro s_t ?_) (by repeat' first | exact trivial | refine And.intro s_b ?_) (by repeat' first | exact trivial | refine And.intro rfl ?_))
          | (refine e_opi (i := 3) rfl (fun h => h) ?_; refine l_op (s_buildSlice (ds := [_, _, _, _, _, _, _, _, _, _]) [(0, _)] rfl ⟨rfl, (kn rfl), trivial⟩ rfl sl_29 sz_62 zr_62 (fun w D => .cons (.cell _) (.cons (.cell _) (.cons (.cell _) (.cons (.cell _) (.cons (.cell _) (.cons (.cell _) (.cons (.cell _) (.cons (.cell _) (.cons (.cell _) (.cons (.cell _) (.nil _ _))))))))))) rfl rfl rfl rfl rfl) ?_; refine e_nil ?_; refine e_fl ?_; exact e_subR hK (by repeat' first | exact trivial | refine And.intro s_t ?_) (by repeat' first | exact trivial | refine And.intro s_b ?_) (by repeat' first | exact trivial | refine And.intro rfl ?_))
          | (refine e_opi (i := 4) rfl (fun h => h) ?_; refine e_app_new 1002 rfl rfl rfl rfl (kn rfl) rfl (kn rfl) hroom (by decide) sl_29 ap_29 (by omega) (by omega) rfl rfl ?_; refine e_req (to_len p q) (to_flat p q) ?_; refine e_nil ?_; refine e_fl ?_; exact e_subR hK (by repeat' first | exact trivial | refine And.intro s_t ?_) (by repeat' first | exact trivial | refine And.intro s_b ?_) (by repeat' first | exact trivial | refine And.intro rfl ?_))
          | (refine e_opi (i := 5) rfl (fun h => h) ?_; refine l_op (s_loadn_box (ds := [_, _, _, _, _, _, _]) 7 rfl (kn rfl) rfl rfl agg_27 sz_27 rfl) ?_; refine e_nil ?_; refine e_fl ?_; exact e_subR hK (by repeat' first | exact trivial | refine And.intro s_t ?_) (by repeat' first | exact trivial | refine And.intro s_b ?_) (by repeat' first | exact trivial | refine And.intro rfl ?_))
          | (refine e_opi (i := 6) rfl (fun h => h) ?_; refine e_unpin1 (t := 10) rfl rfl rfl ?_; intro v1 hv1; refine e_callc (fun b => b) (rn 1001 1002) rfl rfl rfl rfl (by kernel_rfl) (lent_w rfl rfl rfl rfl) (kn rfl) (zs := [_, _]) ⟨kn rfl, kn rfl, trivial⟩ rfl (hx (p ++ [q]) L v1 hs1 hL hv1) YW.tidy ?_; rintro _ _ _ ⟨rfl, rfl, rfl⟩; refine e_nil ?_; refine e_fl ?_; exact e_subR hK (by repeat' first | exact trivial | refine And.intro s_t ?_) (by repeat' first | exact trivial | refine And.intro s_b ?_) (by repeat' first | exact trivial | refine And.intro rfl ?_))
    try refine e_fl ?_
    exact e_endx (dB v0) (wR (L ++ (allP x).map ((p ++ [q]) ++ ·)) p) rfl .nil (Imp.refl _) ⟨s_b, s_b, s_b, trivial⟩ ⟨rfl, rfl, trivial⟩ ⟨rfl, rfl, rfl⟩
theorem kids_len3 {v : Vl} (hv : Gp v) (h : v.kind = 3) : (skids v).length = v.fields.length := by rw [skids3 (right_all hv.g.r).1 h, kidsF, List.length_map]
theorem kids_len4 {v : Vl} (hv : Gp v) (h : v.kind = 4) : (skids v).length = v.list.length := by rw [skids4 (right_all hv.g.r).1 h, kidsL_len]
theorem kids_len5 {v : Vl} (hv : Gp v) (h : v.kind = 5) : (skids v).length = v.pairs.length := by rw [skids5 (right_all hv.g.r).1 h, kidsQ, List.length_map]
theorem kids_at3 {v : Vl} (hv : Gp v) (h : v.kind = 3) {k : Nat} {f : Int × Vl} (hf : v.fields[k]? = some f) : (skids v)[k]? = some (sF f.1, f.2) := by rw [skids3 (right_all hv.g.r).1 h, kidsF, List.getElem?_map, hf]; rfl
theorem kids_at4 {v : Vl} (hv : Gp v) (h : v.kind = 4) {k : Nat} {x : Vl} (hf : v.list[k]? = some x) : (skids v)[k]? = some (sI k, x) := by rw [skids4 (right_all hv.g.r).1 h, kidsL_get, hf, Nat.zero_add]; rfl
theorem kids_at5 {v : Vl} (hv : Gp v) (h : v.kind = 5) {k : Nat} {f : Vl × Vl} (hf : v.pairs[k]? = some f) : (skids v)[k]? = some (sK f.1, f.2) := by rw [skids5 (right_all hv.g.r).1 h, kidsQ, List.getElem?_map, hf]; rfl
set_option maxRecDepth 100000 in
set_option maxHeartbeats 4000000 in
theorem peach_eg (v : Vl) (hv : Gp v) (p : List St) (v0 : Value) (st : Nat → List (List St)) (hc : ∀ (k : Nat) q, (skids v)[k]? = some q → EG Tryz.prog [] 44 [.part (.many (sd q.1)), .part (.many (vd q.2)), .box 61 0, .box 62 0] (dB v0) (wR (st k) p) (YD v0 (st (k + 1)) p)) :
    EG Tryz.prog [] 43 [.part (.many (vd v)), .clo (.func 44) [] [.box 61 0, .box 62 0]] (dB v0) (wR (st 0) p) (YD v0 (st (skids v).length) p) := by
  obtain ⟨a1, a2, a3⟩ := short_len hv.g.s
  refine eg_enter 78 Tryz.func43 rfl rfl rfl fun w D bor mb => ?_
  try refine e_fl ?_
  refine e_list ?_
  refine e_box 2 rfl rfl rfl rfl (kn rfl) rfl rfl rfl rfl ?_
  refine e_nil ?_
  try refine e_fl ?_
  refine e_plain (w_op rfl rfl rfl (s_faddr_box rfl (kn rfl) off_27_0) (w_op rfl rfl rfl (s_load1_box rfl (kn rfl) rfl rfl one_3) .nil)) ?_
  try refine e_fl ?_
  refine e_plain (w_op rfl rfl rfl (s_bin rfl (kn rfl) (kn rfl) v_eql) (w_as rfl rfl rfl rfl rfl .nil)) ?_
  try refine e_fl ?_
  refine e_cond rfl (fun h3 => ?_) (fun h3 => ?_)
  · have hk3 : v.kind = 3 := of_decide_eq_true h3
    try refine e_fl ?_
    refine e_plain (w_op rfl rfl rfl (s_faddr_box rfl (kn rfl) off_27_3) (w_op rfl rfl rfl (s_load1_box rfl (kn rfl) rfl rfl one_23) (w_op rfl rfl rfl (s_len rfl (kn rfl) sle_23) (w_mv rfl rfl rfl rfl rfl .nil)))) ?_
    try refine e_fl ?_
    refine e_loop (ι := { k : Nat // k ≤ (v.fields).length })
      (fun k => [(1, .clo (.func 44) [] [.box 61 0, .box 62 0]), (2, .box 2 0), (17, .part (.one (.row 8 (v.fields).length ((v.fields).flatMap fieldDats)))), (18, .is (.int .i64 ((v.fields).length : Int))), (19, .is (.int .i64 (k.1 : Int)))])
      (fun _ => [(60, x60), (61, x61), (62, x62 v0), (2, ⟨27, bcs (vd v)⟩)]) (fun k => wR (st k.1) p) (fun k => (v.fields).length - k.1) ⟨0, by omega⟩
      (fun K => e_sub ⟨s_t, s_t, s_t, s_t, s_t, trivial⟩ ⟨s_b, s_b, s_b, s_b, trivial⟩ ⟨rfl, rfl, trivial⟩) ?_
    rintro ⟨k, hk⟩
    dsimp only at hk ⊢
    try refine e_fl ?_
    refine e_plain (w_op rfl rfl rfl (s_bin rfl (kn rfl) (kn rfl) v_lss) .nil) ?_
    try refine e_fl ?_
    refine e_cond rfl (fun h => ?_) (fun h => ?_)
    · have hlt : k < v.fields.length := by have := of_decide_eq_true h; omega
      obtain ⟨f, hf⟩ : ∃ f, v.fields[k]? = some f := ⟨_, List.getElem?_eq_getElem hlt⟩
      have hfa := fieldAt_ef (sF f.1) v hv.g
      rw [fAt_at hv.g.r hk3 hf] at hfa
      try refine e_fl ?_
      refine e_list ?_
      refine l_mv ?_
      refine l_op (s_index rfl (kn rfl) (kn rfl) (by omega) hf fieldDats_len sle_23 esz_23 (fieldDats_vd f)) ?_
      refine l_op (s_loadn_ref rfl (kn rfl) agg_66 sz_66) ?_
      refine e_alloc 5 [.is (.int .i64 0), .is (.int .i64 0), .is (.int .u64 0), .is (.string ⟨#[]⟩), .is (.slice none 0 0), .is (.string ⟨#[]⟩), .is (.slice none 0 0), .is (.slice none 0 0)] rfl rfl rfl rfl zr_66 (fun w D M V => ⟨rfl, fun j x v h1 h2 => cfit_is _ h1 h2 rfl⟩) rfl rfl rfl rfl ?_
      refine l_as ?_
      refine e_storew rfl rfl rfl (kn rfl) rfl (kn rfl) rfl rfl sz_66 ?_
      refine e_nil ?_
      try refine e_fl ?_
      refine e_list ?_
      refine l_op (s_faddr_box rfl (kn rfl) off_66_0) ?_
      refine l_op (s_load1_box rfl (kn rfl) rfl rfl one_3) ?_
      refine l_op (s_build (ds := [_, _, _, _, _, _, .row 8 0 [], _, .row 7 0 [], .row 14 0 []]) [(0, _), (1, _)] rfl ⟨rfl, (kn rfl), ⟨rfl, (kn rfl), trivial⟩⟩ rfl pl_62 zr_62 (fun w D => .cons (.cell _) (.cons (.cell _) (.cons (.cell _) (.cons (.cell _) (.cons (.cell _) (.cons (.cell _) (.cons (.none _ _ _) (.cons (.cell _) (.cons (.none _ _ _) (.cons (.none _ _ _) (.nil _ _))))))))))) rfl) ?_
      refine e_alloc 6 [.is (.int .i64 0), .is (.int .i64 0), .is (.int .i64 0), .is (.int .i64 0), .is (.int .u64 0), .is (.string ⟨#[]⟩), .is (.slice none 0 0), .is (.string ⟨#[]⟩), .is (.slice none 0 0), .is (.slice none 0 0)] rfl rfl rfl rfl zr_62 (fun w D M V => ⟨rfl, fun j x v h1 h2 => cfit_is _ h1 h2 rfl⟩) rfl rfl rfl rfl ?_
      refine e_storew rfl rfl rfl (kn rfl) rfl (kn rfl) rfl rfl sz_62 ?_
      refine e_nil ?_
      try refine e_fl ?_
      refine e_plain (w_op rfl rfl rfl (s_loadn_box (ds := [_, _, _, _, _, _, _, _, _, _]) 10 rfl (kn rfl) rfl rfl agg_62 sz_62 rfl) (w_op rfl rfl rfl (s_loadn_box (ds := [_, _, _, _, _, _, _]) 7 rfl (kn rfl) rfl rfl agg_27 sz_27 rfl) (w_op rfl rfl rfl (s_call rfl (by kernel_rfl) (hfa) ⟨(kn rfl), ⟨(kn rfl), trivial⟩⟩) (w_mv rfl rfl rfl rfl rfl (w_op rfl rfl rfl (s_bin rfl (kn rfl) (kn rfl) v_eql) .nil))))) ?_
      try refine e_fl ?_
      refine e_cond rfl (fun _ => ?_) (fun h => absurd h (by simp))
      try refine e_fl ?_
      refine e_list ?_
      refine l_mv ?_
      refine l_op (s_loadn_box (ds := [_, _, _, _, _, _, _, _, _, _]) 10 rfl (kn rfl) rfl rfl agg_62 sz_62 rfl) ?_
      refine l_op (s_faddr_box rfl (kn rfl) off_66_1) ?_
      refine l_op (s_loadn_box (ds := [_, _, _, _, _, _, _]) 7 rfl (kn rfl) rfl rfl agg_27 sz_27 rfl) ?_
      refine e_callci (zs := [_, _]) rfl rfl rfl rfl (by kernel_rfl) (hc k _ (kids_at3 hv hk3 hf)) ⟨rfl, rfl, rfl, trivial⟩ ⟨rfl, rfl, trivial⟩ (kn rfl) ⟨(kn rfl), ⟨(kn rfl), trivial⟩⟩ rfl (YD.tidy) ?_
      rintro _ _ _ ⟨rfl, rfl, rfl⟩
      refine e_nil ?_
      try refine e_fl ?_
      refine e_plain (w_op rfl rfl rfl (s_bin rfl (kn rfl) (kn rfl) (v_add64 (by first | omega | (dsimp only; omega) | omega))) (w_mv rfl rfl rfl rfl rfl .nil)) ?_
      try refine e_fl ?_
      refine e_again ⟨k + 1, by omega⟩ (by dsimp only; omega) (fun K => e_sub ⟨s_t, s_t, s_t, s_t, s_t, trivial⟩ ⟨s_b, s_b, s_b, s_b, trivial⟩ ⟨rfl, rfl, trivial⟩)
    obtain rfl : k = v.fields.length := by have := of_decide_eq_false h; omega
    try refine e_fl ?_
    rw [kids_len3 hv hk3]
    exact e_endx (dB v0) (wR (st v.fields.length) p) rfl .nil (Imp.refl _) ⟨s_b, s_b, s_b, trivial⟩ ⟨rfl, rfl, trivial⟩ ⟨rfl, rfl, rfl⟩
  try refine e_fl ?_
  refine e_plain (w_op rfl rfl rfl (s_bin rfl (kn rfl) (kn rfl) v_eql) (w_as rfl rfl rfl rfl rfl .nil)) ?_
  try refine e_fl ?_
  refine e_cond rfl (fun h4 => ?_) (fun h4 => ?_)
  · have hk4 : v.kind = 4 := of_decide_eq_true h4
    try refine e_fl ?_
    refine e_plain (w_op rfl rfl rfl (s_faddr_box rfl (kn rfl) off_27_5) (w_op rfl rfl rfl (s_load1_box rfl (kn rfl) rfl rfl one_24) (w_op rfl rfl rfl (s_len rfl (kn rfl) sle_24) (w_mv rfl rfl rfl rfl rfl .nil)))) ?_
    try refine e_fl ?_
    refine e_loop (ι := { k : Nat // k ≤ (v.list).length })
      (fun k => [(1, .clo (.func 44) [] [.box 61 0, .box 62 0]), (2, .box 2 0), (41, .part (.one (.row 7 (v.list).length ((v.list).flatMap Vl.dats)))), (42, .is (.int .i64 ((v.list).length : Int))), (43, .is (.int .i64 (k.1 : Int)))])
      (fun _ => [(60, x60), (61, x61), (62, x62 v0), (2, ⟨27, bcs (vd v)⟩)]) (fun k => wR (st k.1) p) (fun k => (v.list).length - k.1) ⟨0, by omega⟩
      (fun K => e_sub ⟨s_t, s_t, s_t, s_t, s_t, trivial⟩ ⟨s_b, s_b, s_b, s_b, trivial⟩ ⟨rfl, rfl, trivial⟩) ?_
    rintro ⟨k, hk⟩
    dsimp only at hk ⊢
    try refine e_fl ?_
    refine e_plain (w_op rfl rfl rfl (s_bin rfl (kn rfl) (kn rfl) v_lss) .nil) ?_
    try refine e_fl ?_
    refine e_cond rfl (fun h => ?_) (fun h => ?_)
    · have hlt : k < v.list.length := by have := of_decide_eq_true h; omega
      obtain ⟨x, hx⟩ : ∃ x, v.list[k]? = some x := ⟨_, List.getElem?_eq_getElem hlt⟩
      try refine e_fl ?_
      refine e_list ?_
      refine l_mv ?_
      refine l_op (s_index rfl (kn rfl) (kn rfl) (by omega) hx Vl.dats_len sle_24 esz_24 (dats_vd x)) ?_
      refine l_op (s_loadn_ref rfl (kn rfl) agg_27 sz_27) ?_
      refine e_alloc 8 [.is (.int .i64 0), .is (.int .u64 0), .is (.string ⟨#[]⟩), .is (.slice none 0 0), .is (.string ⟨#[]⟩), .is (.slice none 0 0), .is (.slice none 0 0)] rfl rfl rfl rfl zr_27 (fun w D M V => ⟨rfl, fun j x v h1 h2 => cfit_is _ h1 h2 rfl⟩) rfl rfl rfl rfl ?_
      refine l_as ?_
      refine e_storew rfl rfl rfl (kn rfl) rfl (kn rfl) rfl rfl sz_27 ?_
      refine e_nil ?_
      try refine e_fl ?_
      refine e_list ?_
      refine l_mv ?_
      refine l_mv ?_
      refine l_op (s_build (ds := [_, _, _, _, _, _, .row 8 0 [], _, .row 7 0 [], .row 14 0 []]) [(0, _), (1, _)] rfl ⟨rfl, (kn rfl), ⟨rfl, (kn rfl), trivial⟩⟩ rfl pl_62 zr_62 (fun w D => .cons (.cell _) (.cons (.cell _) (.cons (.cell _) (.cons (.cell _) (.cons (.cell _) (.cons (.cell _) (.cons (.none _ _ _) (.cons (.cell _) (.cons (.none _ _ _) (.cons (.none _ _ _) (.nil _ _))))))))))) rfl) ?_
      refine l_op (s_loadn_box (ds := [_, _, _, _, _, _, _]) 7 rfl (kn rfl) rfl rfl agg_27 sz_27 rfl) ?_
      refine e_callci (zs := [_, _]) rfl rfl rfl rfl (by kernel_rfl) (hc k _ (kids_at4 hv hk4 hx)) ⟨rfl, rfl, rfl, trivial⟩ ⟨rfl, rfl, trivial⟩ (kn rfl) ⟨(kn rfl), ⟨(kn rfl), trivial⟩⟩ rfl (YD.tidy) ?_
      rintro _ _ _ ⟨rfl, rfl, rfl⟩
      refine e_nil ?_
      try refine e_fl ?_
      refine e_plain (w_op rfl rfl rfl (s_bin rfl (kn rfl) (kn rfl) (v_add64 (by first | omega | (dsimp only; omega) | omega))) (w_mv rfl rfl rfl rfl rfl .nil)) ?_
      try refine e_fl ?_
      refine e_again ⟨k + 1, by omega⟩ (by dsimp only; omega) (fun K => e_sub ⟨s_t, s_t, s_t, s_t, s_t, trivial⟩ ⟨s_b, s_b, s_b, s_b, trivial⟩ ⟨rfl, rfl, trivial⟩)
    obtain rfl : k = v.list.length := by have := of_decide_eq_false h; omega
    try refine e_fl ?_
    rw [kids_len4 hv hk4]
    exact e_endx (dB v0) (wR (st v.list.length) p) rfl .nil (Imp.refl _) ⟨s_b, s_b, s_b, trivial⟩ ⟨rfl, rfl, trivial⟩ ⟨rfl, rfl, rfl⟩
  try refine e_fl ?_
  refine e_plain (w_op rfl rfl rfl (s_bin rfl (kn rfl) (kn rfl) v_eql) (w_as rfl rfl rfl rfl rfl .nil)) ?_
  try refine e_fl ?_
  refine e_cond rfl (fun h5 => ?_) (fun h5 => ?_)
  · have hk5 : v.kind = 5 := of_decide_eq_true h5
    try refine e_fl ?_
    refine e_plain (w_op rfl rfl rfl (s_faddr_box rfl (kn rfl) off_27_6) (w_op rfl rfl rfl (s_load1_box rfl (kn rfl) rfl rfl one_25) (w_op rfl rfl rfl (s_len rfl (kn rfl) sle_25) (w_mv rfl rfl rfl rfl rfl .nil)))) ?_
    try refine e_fl ?_
    refine e_loop (ι := { k : Nat // k ≤ (v.pairs).length })
      (fun k => [(1, .clo (.func 44) [] [.box 61 0, .box 62 0]), (2, .box 2 0), (57, .part (.one (.row 14 (v.pairs).length ((v.pairs).flatMap pairDats)))), (58, .is (.int .i64 ((v.pairs).length : Int))), (59, .is (.int .i64 (k.1 : Int)))])
      (fun _ => [(60, x60), (61, x61), (62, x62 v0), (2, ⟨27, bcs (vd v)⟩)]) (fun k => wR (st k.1) p) (fun k => (v.pairs).length - k.1) ⟨0, by omega⟩
      (fun K => e_sub ⟨s_t, s_t, s_t, s_t, s_t, trivial⟩ ⟨s_b, s_b, s_b, s_b, trivial⟩ ⟨rfl, rfl, trivial⟩) ?_
    rintro ⟨k, hk⟩
    dsimp only at hk ⊢
    try refine e_fl ?_
    refine e_plain (w_op rfl rfl rfl (s_bin rfl (kn rfl) (kn rfl) v_lss) .nil) ?_
    try refine e_fl ?_
    refine e_cond rfl (fun h => ?_) (fun h => ?_)
    · have hlt : k < v.pairs.length := by have := of_decide_eq_true h; omega
      obtain ⟨f, hf⟩ : ∃ f, v.pairs[k]? = some f := ⟨_, List.getElem?_eq_getElem hlt⟩
      have hfa := pairAt_ef (sK f.1) (short_pair hv.g.s (List.mem_of_getElem? hf)).1 v hv.g
      rw [pAt_at hv.g.r hk5 hf] at hfa
      try refine e_fl ?_
      refine e_list ?_
      refine l_mv ?_
      refine l_op (s_index rfl (kn rfl) (kn rfl) (by omega) hf pairDats_len sle_25 esz_25 (pairDats_vd f)) ?_
      refine l_op (s_loadn_ref rfl (kn rfl) agg_82 sz_82) ?_
      refine e_alloc 10 [.is (.int .i64 0), .is (.int .u64 0), .is (.string ⟨#[]⟩), .is (.slice none 0 0), .is (.string ⟨#[]⟩), .is (.slice none 0 0), .is (.slice none 0 0), .is (.int .i64 0), .is (.int .u64 0), .is (.string ⟨#[]⟩), .is (.slice none 0 0), .is (.string ⟨#[]⟩), .is (.slice none 0 0), .is (.slice none 0 0)] rfl rfl rfl rfl zr_82 (fun w D M V => ⟨rfl, fun j x v h1 h2 => cfit_is _ h1 h2 rfl⟩) rfl rfl rfl rfl ?_
      refine l_as ?_
      refine e_storew rfl rfl rfl (kn rfl) rfl (kn rfl) rfl rfl sz_82 ?_
      refine e_nil ?_
      try refine e_fl ?_
      refine e_list ?_
      refine l_op (s_faddr_box rfl (kn rfl) off_82_0) ?_
      refine l_op (s_loadn_box (ds := [_, _, _, _, _, _, _]) 7 rfl (kn rfl) rfl rfl agg_27 sz_27 rfl) ?_
      refine l_op (s_build (ds := [_, _, _, _, _, _, _, _, _, _]) [(0, _), (3, _)] rfl ⟨rfl, (kn rfl), ⟨rfl, (kn rfl), trivial⟩⟩ rfl pl_62 zr_62 (fun w D => .cons (.cell _) (.cons (.cell _) (.cons (.cell _) (.cons (.cell _) (.cons (.cell _) (.cons (.cell _) (.cons (.cell _) (.cons (.cell _) (.cons (.cell _) (.cons (.cell _) (.nil _ _))))))))))) rfl) ?_
      refine e_alloc 11 [.is (.int .i64 0), .is (.int .i64 0), .is (.int .i64 0), .is (.int .i64 0), .is (.int .u64 0), .is (.string ⟨#[]⟩), .is (.slice none 0 0), .is (.string ⟨#[]⟩), .is (.slice none 0 0), .is (.slice none 0 0)] rfl rfl rfl rfl zr_62 (fun w D M V => ⟨rfl, fun j x v h1 h2 => cfit_is _ h1 h2 rfl⟩) rfl rfl rfl rfl ?_
      refine e_storew rfl rfl rfl (kn rfl) rfl (kn rfl) rfl rfl sz_62 ?_
      refine e_nil ?_
      try refine e_fl ?_
      refine e_plain (w_op rfl rfl rfl (s_loadn_box (ds := [_, _, _, _, _, _, _, _, _, _]) 10 rfl (kn rfl) rfl rfl agg_62 sz_62 rfl) (w_op rfl rfl rfl (s_loadn_box (ds := [_, _, _, _, _, _, _]) 7 rfl (kn rfl) rfl rfl agg_27 sz_27 rfl) (w_op rfl rfl rfl (s_call rfl (by kernel_rfl) (hfa) ⟨(kn rfl), ⟨(kn rfl), trivial⟩⟩) (w_mv rfl rfl rfl rfl rfl (w_op rfl rfl rfl (s_bin rfl (kn rfl) (kn rfl) v_eql) .nil))))) ?_
      try refine e_fl ?_
      refine e_cond rfl (fun _ => ?_) (fun h => absurd h (by simp))
      try refine e_fl ?_
      refine e_list ?_
      refine l_mv ?_
      refine l_op (s_loadn_box (ds := [_, _, _, _, _, _, _, _, _, _]) 10 rfl (kn rfl) rfl rfl agg_62 sz_62 rfl) ?_
      refine l_op (s_faddr_box rfl (kn rfl) off_82_1) ?_
      refine l_op (s_loadn_box (ds := [_, _, _, _, _, _, _]) 7 rfl (kn rfl) rfl rfl agg_27 sz_27 rfl) ?_
      refine e_callci (zs := [_, _]) rfl rfl rfl rfl (by kernel_rfl) (hc k _ (kids_at5 hv hk5 hf)) ⟨rfl, rfl, rfl, trivial⟩ ⟨rfl, rfl, trivial⟩ (kn rfl) ⟨(kn rfl), ⟨(kn rfl), trivial⟩⟩ rfl (YD.tidy) ?_
      rintro _ _ _ ⟨rfl, rfl, rfl⟩
      refine e_nil ?_
      try refine e_fl ?_
      refine e_plain (w_op rfl rfl rfl (s_bin rfl (kn rfl) (kn rfl) (v_add64 (by first | omega | (dsimp only; omega) | omega))) (w_mv rfl rfl rfl rfl rfl .nil)) ?_
      try refine e_fl ?_
      refine e_again ⟨k + 1, by omega⟩ (by dsimp only; omega) (fun K => e_sub ⟨s_t, s_t, s_t, s_t, s_t, trivial⟩ ⟨s_b, s_b, s_b, s_b, trivial⟩ ⟨rfl, rfl, trivial⟩)
    obtain rfl : k = v.pairs.length := by have := of_decide_eq_false h; omega
    try refine e_fl ?_
    rw [kids_len5 hv hk5]
    exact e_endx (dB v0) (wR (st v.pairs.length) p) rfl .nil (Imp.refl _) ⟨s_b, s_b, s_b, trivial⟩ ⟨rfl, rfl, trivial⟩ ⟨rfl, rfl, rfl⟩
  try refine e_fl ?_
  rw [skids0 (right_all hv.g.r).1 (of_decide_eq_false h3) (of_decide_eq_false h4) (of_decide_eq_false h5)]
  exact e_endx (dB v0) (wR (st 0) p) rfl .nil (Imp.refl _) ⟨s_b, s_b, s_b, trivial⟩ ⟨rfl, rfl, trivial⟩ ⟨rfl, rfl, rfl⟩
end Go.Proofs.YtagoikglbifhmaaGreatDoor
