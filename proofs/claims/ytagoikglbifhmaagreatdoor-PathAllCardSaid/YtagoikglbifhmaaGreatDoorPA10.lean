/- Part 10 of what the last text of this claim is proved by: walks over the program, and the math behind them. Conditions: as each theorem says. -/
import Derived.Test.YtagoikglbifhmaaGreatDoorPA09
import Derived.Test.YtagoikglbifhmaaGreatDoorProg
namespace Go.Proofs.YtagoikglbifhmaaGreatDoor
open Go.RowKit
def vd (v : Vl) : List Dat := [.cell (.int .i64 v.kind), .cell (.int .u64 (v.num : Int)), .cell (.string (str v.text)), .row 8 v.fields.length (v.fields.flatMap fieldDats), .cell (.string (str v.rest)), .row 7 v.list.length (v.list.flatMap Vl.dats), .row 14 v.pairs.length (v.pairs.flatMap pairDats)]
theorem dats_vd (v : Vl) : v.dats = vd v := v.dats_eq
theorem fieldDats_vd (f : Int × Vl) : fieldDats f = .cell (.int .i64 f.1) :: vd f.2 := by unfold fieldDats; rw [dats_vd]
theorem pairDats_vd (p : Vl × Vl) : pairDats p = vd p.1 ++ vd p.2 := by unfold pairDats; rw [dats_vd, dats_vd]
abbrev iP (z : Int) : Part := .one (.cell (.int .i64 z))
abbrev uP (n : Nat) : Part := .one (.cell (.int .u64 (n : Int)))
abbrev sP (l : List UInt8) : Part := .one (.cell (.string (str l)))
abbrev tP (b : Bool) : Part := .one (.cell (.bool b))
theorem ncmp_lt {a b : Nat} (h : a < b) : ncmp a b = -1 := if_pos h
theorem ncmp_gt {a b : Nat} (h : b < a) : ncmp a b = 1 := (if_neg (by omega)).trans (if_pos h)
theorem ncmp_eq {a b : Nat} (h : a = b) : ncmp a b = 0 := (if_neg (by omega)).trans (if_neg (by omega))
theorem icmp_lt {a b : Int} (h : a < b) : icmp a b = -1 := if_pos h
theorem icmp_gt {a b : Int} (h : b < a) : icmp a b = 1 := (if_neg (by omega)).trans (if_pos h)
theorem icmp_eq {a b : Int} (h : a = b) : icmp a b = 0 := (if_neg (by omega)).trans (if_neg (by omega))
theorem lex_ne {x y : Int} (h : x ≠ 0) : lex x y = x := if_pos h
theorem lex_eq {x y : Int} (h : x = 0) : lex x y = y := if_neg (by omega)
set_option maxRecDepth 100000 in
theorem numbers_ef (a b : Nat) : EF Tryz.prog [] 62 [uP a, uP b] (.part (iP (ncmp a b))) := by
  refine ef_enter 11 Tryz.func62 rfl rfl rfl fun w D => ?_
  try refine e_fl ?_
  refine e_plain (w_as rfl rfl rfl rfl rfl .nil) ?_
  try refine e_fl ?_
  refine e_plain (w_mv rfl rfl rfl rfl rfl (w_mv rfl rfl rfl rfl rfl (w_op rfl rfl rfl (s_bin rfl (kn rfl) (kn rfl) v_lss) .nil))) ?_
  try refine e_fl ?_
  refine e_cond rfl (fun h => ?_) (fun h => ?_)
  · have e : ncmp a b = -1 := ncmp_lt (by have := of_decide_eq_true h; omega)
    try refine e_fl ?_
    refine e_plain (w_as rfl rfl rfl rfl rfl .nil) ?_
    try refine e_fl ?_
    exact e_return rfl rfl (.tmp (kn rfl) (.nil)) (Imp.of_eq (by rw [e]; rfl)) rfl
  try refine e_fl ?_
  refine e_plain (w_mv rfl rfl rfl rfl rfl (w_mv rfl rfl rfl rfl rfl (w_op rfl rfl rfl (s_bin rfl (kn rfl) (kn rfl) v_gtr) .nil))) ?_
  try refine e_fl ?_
  refine e_cond rfl (fun h2 => ?_) (fun h2 => ?_)
  · have e : ncmp a b = 1 := ncmp_gt (by have := of_decide_eq_true h2; omega)
    try refine e_fl ?_
    refine e_plain (w_as rfl rfl rfl rfl rfl .nil) ?_
    try refine e_fl ?_
    exact e_return rfl rfl (.tmp (kn rfl) (.nil)) (Imp.of_eq (by rw [e]; rfl)) rfl
  have e : ncmp a b = 0 := ncmp_eq (by have := of_decide_eq_false h; have := of_decide_eq_false h2; omega)
  try refine e_fl ?_
  refine e_plain (w_as rfl rfl rfl rfl rfl .nil) ?_
  try refine e_fl ?_
  exact e_return rfl rfl (.tmp (kn rfl) (.nil)) (Imp.of_eq (by rw [e]; rfl)) rfl
set_option maxRecDepth 100000 in
theorem texts_ef (a b : List UInt8) : EF Tryz.prog [] 63 [sP a, sP b] (.part (iP (tcmp a b))) := by
  have hin := tcmp_in a b
  refine ef_enter 11 Tryz.func63 rfl rfl rfl fun w D => ?_
  try refine e_fl ?_
  refine e_plain (w_as rfl rfl rfl rfl rfl .nil) ?_
  try refine e_fl ?_
  refine e_plain (w_mv rfl rfl rfl rfl rfl (w_mv rfl rfl rfl rfl rfl (w_op rfl rfl rfl (s_bin rfl (kn rfl) (kn rfl) (v_slss)) .nil))) ?_
  try refine e_fl ?_
  refine e_cond rfl (fun h => ?_) (fun h => ?_)
  · have e : tcmp a b = -1 := by have := of_decide_eq_true h; omega
    try refine e_fl ?_
    refine e_plain (w_as rfl rfl rfl rfl rfl .nil) ?_
    try refine e_fl ?_
    exact e_return rfl rfl (.tmp (kn rfl) (.nil)) (Imp.of_eq (by rw [e]; rfl)) rfl
  try refine e_fl ?_
  refine e_plain (w_mv rfl rfl rfl rfl rfl (w_mv rfl rfl rfl rfl rfl (w_op rfl rfl rfl (s_bin rfl (kn rfl) (kn rfl) (v_sgtr)) .nil))) ?_
  try refine e_fl ?_
  refine e_cond rfl (fun h2 => ?_) (fun h2 => ?_)
  · have e : tcmp a b = 1 := by have := of_decide_eq_true h2; omega
    try refine e_fl ?_
    refine e_plain (w_as rfl rfl rfl rfl rfl .nil) ?_
    try refine e_fl ?_
    exact e_return rfl rfl (.tmp (kn rfl) (.nil)) (Imp.of_eq (by rw [e]; rfl)) rfl
  have e : tcmp a b = 0 := by have := of_decide_eq_false h; have := of_decide_eq_false h2; omega
  try refine e_fl ?_
  refine e_plain (w_as rfl rfl rfl rfl rfl .nil) ?_
  try refine e_fl ?_
  exact e_return rfl rfl (.tmp (kn rfl) (.nil)) (Imp.of_eq (by rw [e]; rfl)) rfl
def CmpE (f : FuncId) (a : Vl) : Prop := ∀ b : Vl, b.Fine → EF Tryz.prog [] f [.many (vd a), .many (vd b)] (.part (iP (vcmp a b)))
set_option maxRecDepth 100000 in
set_option maxHeartbeats 4000000 in
theorem cmp_step (a : Vl) (ha : a.Fine) (hf : ∀ f ∈ a.fields, CmpE 37 f.2) (hl : ∀ x ∈ a.list, CmpE 37 x) (hp : ∀ p ∈ a.pairs, CmpE 37 p.1 ∧ CmpE 37 p.2) : CmpE 37 a := by
  intro b hb
  refine ef_enter 210 Tryz.func37 rfl rfl rfl fun w D => ?_
  try refine e_fl ?_
  have hmax : maxLen ≤ 9223372036854775807 := by decide
  obtain ⟨a1, a2, a3, a4, a5, a6, a7, a8⟩ := ha.bounds
  obtain ⟨b1, b2, b3, b4, b5, b6, b7, b8⟩ := hb.bounds
  refine e_list ?_
  refine e_box 2 rfl rfl rfl rfl (kn rfl) rfl rfl rfl rfl ?_
  refine e_box 3 rfl rfl rfl rfl (kn rfl) rfl rfl rfl rfl ?_
  refine l_as ?_
  refine e_nil ?_
  try refine e_fl ?_
  refine e_plain (w_op rfl rfl rfl (s_faddr_box rfl (kn rfl) off_40_0) (w_op rfl rfl rfl (s_load1_box rfl (kn rfl) rfl rfl one_3) (w_op rfl rfl rfl (s_faddr_box rfl (kn rfl) off_40_0) (w_op rfl rfl rfl (s_load1_box rfl (kn rfl) rfl rfl one_3) (w_op rfl rfl rfl (s_bin rfl (kn rfl) (kn rfl) v_lss) .nil))))) ?_
  try refine e_fl ?_
  refine e_cond rfl (fun h => ?_) (fun h => ?_)
  · have g := icmp_lt (of_decide_eq_true h)
    have e : vcmp a b = -1 := by rw [vcmp_eq, lex_ne (by rw [g]; decide), g]
    try refine e_fl ?_
    refine e_plain (w_as rfl rfl rfl rfl rfl .nil) ?_
    try refine e_fl ?_
    exact e_return rfl rfl (.tmp (kn rfl) (.nil)) (Imp.of_eq (by rw [e]; rfl)) rfl
  try refine e_fl ?_
  refine e_plain (w_op rfl rfl rfl (s_faddr_box rfl (kn rfl) off_40_0) (w_op rfl rfl rfl (s_load1_box rfl (kn rfl) rfl rfl one_3) (w_op rfl rfl rfl (s_faddr_box rfl (kn rfl) off_40_0) (w_op rfl rfl rfl (s_load1_box rfl (kn rfl) rfl rfl one_3) (w_op rfl rfl rfl (s_bin rfl (kn rfl) (kn rfl) v_gtr) .nil))))) ?_
  try refine e_fl ?_
  refine e_cond rfl (fun h2 => ?_) (fun h2 => ?_)
  · have g := icmp_gt (of_decide_eq_true h2)
    have e : vcmp a b = 1 := by rw [vcmp_eq, lex_ne (by rw [g]; decide), g]
    try refine e_fl ?_
    refine e_plain (w_as rfl rfl rfl rfl rfl .nil) ?_
    try refine e_fl ?_
    exact e_return rfl rfl (.tmp (kn rfl) (.nil)) (Imp.of_eq (by rw [e]; rfl)) rfl
  have he : vcmp a b = body a.kind a b := by rw [vcmp_eq, lex_eq (icmp_eq (by have := of_decide_eq_false h; have := of_decide_eq_false h2; omega))]
  clear h h2
  try refine e_fl ?_
  refine e_plain (w_op rfl rfl rfl (s_faddr_box rfl (kn rfl) off_40_0) (w_op rfl rfl rfl (s_load1_box rfl (kn rfl) rfl rfl one_3) .nil)) ?_
  try refine e_fl ?_
  try refine e_fl ?_
  refine e_plain (w_op rfl rfl rfl (s_bin rfl (kn rfl) (kn rfl) v_eql) (w_as rfl rfl rfl rfl rfl .nil)) ?_
  try refine e_fl ?_
  refine e_cond rfl (fun q1 => ?_) (fun q1 => ?_)
  · have e : vcmp a b = ncmp a.num b.num := by rw [he]; exact if_pos (of_decide_eq_true q1)
    try refine e_fl ?_
    refine e_plain (w_op rfl rfl rfl (s_faddr_box rfl (kn rfl) off_40_1) (w_op rfl rfl rfl (s_load1_box rfl (kn rfl) rfl rfl one_22) (w_op rfl rfl rfl (s_faddr_box rfl (kn rfl) off_40_1) (w_op rfl rfl rfl (s_load1_box rfl (kn rfl) rfl rfl one_22) (w_op rfl rfl rfl (s_call rfl (by kernel_rfl) (numbers_ef a.num b.num) ⟨(kn rfl), ⟨(kn rfl), trivial⟩⟩) (w_as rfl rfl rfl rfl rfl .nil)))))) ?_
    try refine e_fl ?_
    exact e_return rfl rfl (.tmp (kn rfl) (.nil)) (Imp.of_eq (by rw [e]; rfl)) rfl
  have n1 := of_decide_eq_false q1
  try refine e_fl ?_
  refine e_plain (w_op rfl rfl rfl (s_bin rfl (kn rfl) (kn rfl) v_eql) (w_as rfl rfl rfl rfl rfl .nil)) ?_
  try refine e_fl ?_
  refine e_cond rfl (fun q2 => ?_) (fun q2 => ?_)
  · have e : vcmp a b = tcmp a.text b.text := by rw [he]; exact (if_neg n1).trans (if_pos (of_decide_eq_true q2))
    try refine e_fl ?_
    refine e_plain (w_op rfl rfl rfl (s_faddr_box rfl (kn rfl) off_40_2) (w_op rfl rfl rfl (s_load1_box rfl (kn rfl) rfl rfl one_9) (w_op rfl rfl rfl (s_faddr_box rfl (kn rfl) off_40_2) (w_op rfl rfl rfl (s_load1_box rfl (kn rfl) rfl rfl one_9) (w_op rfl rfl rfl (s_call rfl (by kernel_rfl) (texts_ef a.text b.text) ⟨(kn rfl), ⟨(kn rfl), trivial⟩⟩) (w_as rfl rfl rfl rfl rfl .nil)))))) ?_
    try refine e_fl ?_
    exact e_return rfl rfl (.tmp (kn rfl) (.nil)) (Imp.of_eq (by rw [e]; rfl)) rfl
  have n2 := of_decide_eq_false q2
  try refine e_fl ?_
  refine e_plain (w_op rfl rfl rfl (s_bin rfl (kn rfl) (kn rfl) v_eql) (w_as rfl rfl rfl rfl rfl .nil)) ?_
  try refine e_fl ?_
  refine e_cond rfl (fun q3 => ?_) (fun q3 => ?_)
  · have e : vcmp a b = lex (fcmp a.fields b.fields) (tcmp a.rest b.rest) := by rw [he]; exact (if_neg n1).trans ((if_neg n2).trans (if_pos (of_decide_eq_true q3)))
    try refine e_fl ?_
    refine e_plain (w_as rfl rfl rfl rfl rfl .nil) ?_
    try refine e_fl ?_
    refine e_loop (ι := { k : Nat // k ≤ (a.fields).length ∧ k ≤ (b.fields).length ∧ fcmp ((a.fields).drop k) ((b.fields).drop k) = fcmp (a.fields) (b.fields) })
      (fun k => [(2, .box 2 0), (3, .box 3 0), (5, .is (.int .i64 (k.1 : Int)))])
      (fun _ => [(2, ⟨40, bcs (vd a)⟩), (3, ⟨40, bcs (vd b)⟩)]) (fun _ => []) (fun k => (a.fields).length - k.1) ⟨0, by omega, by omega, by simp⟩
      (fun K => e_sub ⟨s_t, s_t, s_t, trivial⟩ ⟨s_b, s_b, trivial⟩ trivial) ?_
    rintro ⟨k, hk, hk2, hw⟩
    dsimp only at hk hk2 hw ⊢
    try refine e_fl ?_
    refine e_plain (w_mv rfl rfl rfl rfl rfl (w_op rfl rfl rfl (s_faddr_box rfl (kn rfl) off_40_3) (w_op rfl rfl rfl (s_load1_box rfl (kn rfl) rfl rfl one_36) (w_op rfl rfl rfl (s_len rfl (kn rfl) sle_36) (w_op rfl rfl rfl (s_bin rfl (kn rfl) (kn rfl) v_lss) (w_mv rfl rfl rfl rfl rfl (Walk.gd _ rfl rfl rfl (fun h => s_move rfl (kn rfl)) (Walk.gd _ rfl rfl rfl (fun h => s_faddr_box rfl (kn rfl) off_40_3) (Walk.gd _ rfl rfl rfl (fun h => s_load1_box rfl (kn_opt rfl h) rfl rfl one_36) (Walk.gd _ rfl rfl rfl (fun h => s_len rfl (kn_opt rfl h) sle_36) (Walk.gd _ rfl rfl rfl (fun h => s_bin rfl (kn_opt rfl h) (kn_opt rfl h) v_lss) (w_op rfl rfl rfl (s_and rfl (kn rfl) (fun hb => kn_opt rfl hb)) .nil)))))))))))) ?_
    try refine e_fl ?_
    refine e_cond rfl (fun h => ?_) (fun h => ?_)
    · have hlt : k < (a.fields).length ∧ k < (b.fields).length := by simpa using h
      obtain ⟨x, hx⟩ : ∃ x, (a.fields)[k]? = some x := ⟨_, List.getElem?_eq_getElem hlt.1⟩
      obtain ⟨y, hy⟩ : ∃ y, (b.fields)[k]? = some y := ⟨_, List.getElem?_eq_getElem hlt.2⟩
      rw [drop_cons hx, drop_cons hy, fcmp_cons] at hw
      try refine e_fl ?_
      refine e_draw mixed (by kernel_rfl) (w_op rfl rfl rfl (s_faddr_box rfl (kn rfl) off_40_3) (w_op rfl rfl rfl (s_load1_box rfl (kn rfl) rfl rfl one_36) (w_mv rfl rfl rfl rfl rfl (w_op rfl rfl rfl (s_index rfl (kn rfl) (kn rfl) (by omega) hx fieldDats_len sle_36 esz_36 (fieldDats_vd x)) (w_op rfl rfl rfl (s_faddr_ref rfl (kn rfl) off_80_0) (w_op rfl rfl rfl (s_load1_ref rfl (kn rfl) one_3) (w_op rfl rfl rfl (s_faddr_box rfl (kn rfl) off_40_3) (w_op rfl rfl rfl (s_load1_box rfl (kn rfl) rfl rfl one_36) (w_mv rfl rfl rfl rfl rfl (w_op rfl rfl rfl (s_index rfl (kn rfl) (kn rfl) (by omega) hy fieldDats_len sle_36 esz_36 (fieldDats_vd y)) (w_op rfl rfl rfl (s_faddr_ref rfl (kn rfl) off_80_0) (w_op rfl rfl rfl (s_load1_ref rfl (kn rfl) one_3) (w_op rfl rfl rfl (s_bin rfl (kn rfl) (kn rfl) v_lss) .nil))))))))))))) ?_
      try refine e_fl ?_
      refine e_cond rfl (fun h => ?_) (fun h => ?_)
      · have g := icmp_lt (of_decide_eq_true h)
        rw [lex_ne (by rw [g]; decide), g] at hw
        rw [← hw, lex_ne (by decide)] at e
        try refine e_fl ?_
        refine e_plain (w_as rfl rfl rfl rfl rfl .nil) ?_
        try refine e_fl ?_
        exact e_return rfl rfl (.tmp (kn rfl) (.nil)) (Imp.of_eq (by rw [e]; rfl)) rfl
      try refine e_fl ?_
      refine e_draw mixed (by kernel_rfl) (w_op rfl rfl rfl (s_faddr_box rfl (kn rfl) off_40_3) (w_op rfl rfl rfl (s_load1_box rfl (kn rfl) rfl rfl one_36) (w_mv rfl rfl rfl rfl rfl (w_op rfl rfl rfl (s_index rfl (kn rfl) (kn rfl) (by omega) hx fieldDats_len sle_36 esz_36 (fieldDats_vd x)) (w_op rfl rfl rfl (s_faddr_ref rfl (kn rfl) off_80_0) (w_op rfl rfl rfl (s_load1_ref rfl (kn rfl) one_3) (w_op rfl rfl rfl (s_faddr_box rfl (kn rfl) off_40_3) (w_op rfl rfl rfl (s_load1_box rfl (kn rfl) rfl rfl one_36) (w_mv rfl rfl rfl rfl rfl (w_op rfl rfl rfl (s_index rfl (kn rfl) (kn rfl) (by omega) hy fieldDats_len sle_36 esz_36 (fieldDats_vd y)) (w_op rfl rfl rfl (s_faddr_ref rfl (kn rfl) off_80_0) (w_op rfl rfl rfl (s_load1_ref rfl (kn rfl) one_3) (w_op rfl rfl rfl (s_bin rfl (kn rfl) (kn rfl) v_gtr) .nil))))))))))))) ?_
      try refine e_fl ?_
      refine e_cond rfl (fun h2 => ?_) (fun h2 => ?_)
      · have g := icmp_gt (of_decide_eq_true h2)
        rw [lex_ne (by rw [g]; decide), g] at hw
        rw [← hw, lex_ne (by decide)] at e
        try refine e_fl ?_
        refine e_plain (w_as rfl rfl rfl rfl rfl .nil) ?_
        try refine e_fl ?_
        exact e_return rfl rfl (.tmp (kn rfl) (.nil)) (Imp.of_eq (by rw [e]; rfl)) rfl
      rw [lex_eq (icmp_eq (by have := of_decide_eq_false h; have := of_decide_eq_false h2; omega))] at hw
      try refine e_fl ?_
      refine e_draw mixed (by kernel_rfl) (w_op rfl rfl rfl (s_faddr_box rfl (kn rfl) off_40_3) (w_op rfl rfl rfl (s_load1_box rfl (kn rfl) rfl rfl one_36) (w_mv rfl rfl rfl rfl rfl (w_op rfl rfl rfl (s_index rfl (kn rfl) (kn rfl) (by omega) hx fieldDats_len sle_36 esz_36 (fieldDats_vd x)) (w_op rfl rfl rfl (s_faddr_ref rfl (kn rfl) off_80_1) (w_op rfl rfl rfl (s_loadn_ref rfl (kn rfl) agg_40 sz_40) (w_op rfl rfl rfl (s_faddr_box rfl (kn rfl) off_40_3) (w_op rfl rfl rfl (s_load1_box rfl (kn rfl) rfl rfl one_36) (w_mv rfl rfl rfl rfl rfl (w_op rfl rfl rfl (s_index rfl (kn rfl) (kn rfl) (by omega) hy fieldDats_len sle_36 esz_36 (fieldDats_vd y)) (w_op rfl rfl rfl (s_faddr_ref rfl (kn rfl) off_80_1) (w_op rfl rfl rfl (s_loadn_ref rfl (kn rfl) agg_40 sz_40) (w_op rfl rfl rfl (s_call rfl (by kernel_rfl) (hf x (List.mem_of_getElem? hx) y.2 (hb.field (List.mem_of_getElem? hy)).2) ⟨(kn rfl), ⟨(kn rfl), trivial⟩⟩) (w_as rfl rfl rfl rfl rfl .nil)))))))))))))) ?_
      try refine e_fl ?_
      refine e_plain (w_mv rfl rfl rfl rfl rfl (w_op rfl rfl rfl (s_bin rfl (kn rfl) (kn rfl) v_neq) .nil)) ?_
      try refine e_fl ?_
      refine e_cond rfl (fun h3 => ?_) (fun h3 => ?_)
      · have g : vcmp x.2 y.2 ≠ 0 := by simpa using h3
        rw [lex_ne g] at hw
        rw [← hw, lex_ne g] at e
        try refine e_fl ?_
        refine e_plain (w_mv rfl rfl rfl rfl rfl (w_as rfl rfl rfl rfl rfl .nil)) ?_
        try refine e_fl ?_
        exact e_return rfl rfl (.tmp (kn rfl) (.nil)) (Imp.of_eq (by rw [e]; rfl)) rfl
      rw [lex_eq (by simpa using h3)] at hw
      try refine e_fl ?_
      refine e_plain (w_mv rfl rfl rfl rfl rfl (w_op rfl rfl rfl (s_bin rfl (kn rfl) (kn rfl) (v_add64 (by first | omega | (dsimp only; omega) | omega))) (w_as rfl rfl rfl rfl rfl .nil))) ?_
      try refine e_fl ?_
      refine e_again ⟨k + 1, by omega, by omega, hw⟩ (by dsimp only; omega) (fun K => e_sub ⟨s_t, s_t, s_t, trivial⟩ ⟨s_b, s_b, trivial⟩ trivial)
    · have hge : (a.fields).length ≤ k ∨ (b.fields).length ≤ k := by
        have : ¬ (k < (a.fields).length ∧ k < (b.fields).length) := by simpa using h
        omega
      have hend : fcmp (a.fields) (b.fields) = ncmp (a.fields).length (b.fields).length := by
        rw [← hw, fcmp_end _ _ (by rcases hge with h | h; exact .inl (List.drop_eq_nil_of_le h); exact .inr (List.drop_eq_nil_of_le h)), List.length_drop, List.length_drop, ncmp_drop _ _ _ hk hk2]
      try refine e_fl ?_
      rw [hend] at e
      refine e_plain (w_op rfl rfl rfl (s_faddr_box rfl (kn rfl) off_40_3) (w_op rfl rfl rfl (s_load1_box rfl (kn rfl) rfl rfl one_36) (w_op rfl rfl rfl (s_len rfl (kn rfl) sle_36) (w_op rfl rfl rfl (s_convk rfl (kn rfl) (by kernel_rfl) int_22 (by kernel_rfl) (wrap_u64 _ (by omega) (by omega))) (w_op rfl rfl rfl (s_faddr_box rfl (kn rfl) off_40_3) (w_op rfl rfl rfl (s_load1_box rfl (kn rfl) rfl rfl one_36) (w_op rfl rfl rfl (s_len rfl (kn rfl) sle_36) (w_op rfl rfl rfl (s_convk rfl (kn rfl) (by kernel_rfl) int_22 (by kernel_rfl) (wrap_u64 _ (by omega) (by omega))) (w_op rfl rfl rfl (s_call rfl (by kernel_rfl) (numbers_ef a.fields.length b.fields.length) ⟨(kn rfl), ⟨(kn rfl), trivial⟩⟩) (w_as rfl rfl rfl rfl rfl .nil)))))))))) ?_
      try refine e_fl ?_
      refine e_plain (w_mv rfl rfl rfl rfl rfl (w_op rfl rfl rfl (s_bin rfl (kn rfl) (kn rfl) v_neq) .nil)) ?_
      try refine e_fl ?_
      refine e_cond rfl (fun h3 => ?_) (fun h3 => ?_)
      · rw [lex_ne (by simpa using h3)] at e
        try refine e_fl ?_
        refine e_plain (w_mv rfl rfl rfl rfl rfl (w_as rfl rfl rfl rfl rfl .nil)) ?_
        try refine e_fl ?_
        exact e_return rfl rfl (.tmp (kn rfl) (.nil)) (Imp.of_eq (by rw [e]; rfl)) rfl
      rw [lex_eq (by simpa using h3)] at e
      try refine e_fl ?_
      refine e_plain (w_op rfl rfl rfl (s_faddr_box rfl (kn rfl) off_40_4) (w_op rfl rfl rfl (s_load1_box rfl (kn rfl) rfl rfl one_9) (w_op rfl rfl rfl (s_faddr_box rfl (kn rfl) off_40_4) (w_op rfl rfl rfl (s_load1_box rfl (kn rfl) rfl rfl one_9) (w_op rfl rfl rfl (s_call rfl (by kernel_rfl) (texts_ef a.rest b.rest) ⟨(kn rfl), ⟨(kn rfl), trivial⟩⟩) (w_as rfl rfl rfl rfl rfl .nil)))))) ?_
      try refine e_fl ?_
      exact e_return rfl rfl (.tmp (kn rfl) (.nil)) (Imp.of_eq (by rw [e]; rfl)) rfl
  have n3 := of_decide_eq_false q3
  try refine e_fl ?_
  refine e_plain (w_op rfl rfl rfl (s_bin rfl (kn rfl) (kn rfl) v_eql) (w_as rfl rfl rfl rfl rfl .nil)) ?_
  try refine e_fl ?_
  refine e_cond rfl (fun q4 => ?_) (fun q4 => ?_)
  · have e : vcmp a b = lcmp a.list b.list := by rw [he]; exact (if_neg n1).trans ((if_neg n2).trans ((if_neg n3).trans (if_pos (of_decide_eq_true q4))))
    try refine e_fl ?_
    refine e_plain (w_as rfl rfl rfl rfl rfl .nil) ?_
    try refine e_fl ?_
    refine e_loop (ι := { k : Nat // k ≤ (a.list).length ∧ k ≤ (b.list).length ∧ lcmp ((a.list).drop k) ((b.list).drop k) = lcmp (a.list) (b.list) })
      (fun k => [(2, .box 2 0), (3, .box 3 0), (8, .is (.int .i64 (k.1 : Int)))])
      (fun _ => [(2, ⟨40, bcs (vd a)⟩), (3, ⟨40, bcs (vd b)⟩)]) (fun _ => []) (fun k => (a.list).length - k.1) ⟨0, by omega, by omega, by simp⟩
      (fun K => e_sub ⟨s_t, s_t, s_t, trivial⟩ ⟨s_b, s_b, trivial⟩ trivial) ?_
    rintro ⟨k, hk, hk2, hw⟩
    dsimp only at hk hk2 hw ⊢
    try refine e_fl ?_
    refine e_plain (w_mv rfl rfl rfl rfl rfl (w_op rfl rfl rfl (s_faddr_box rfl (kn rfl) off_40_5) (w_op rfl rfl rfl (s_load1_box rfl (kn rfl) rfl rfl one_37) (w_op rfl rfl rfl (s_len rfl (kn rfl) sle_37) (w_op rfl rfl rfl (s_bin rfl (kn rfl) (kn rfl) v_lss) (w_mv rfl rfl rfl rfl rfl (Walk.gd _ rfl rfl rfl (fun h => s_move rfl (kn rfl)) (Walk.gd _ rfl rfl rfl (fun h => s_faddr_box rfl (kn rfl) off_40_5) (Walk.gd _ rfl rfl rfl (fun h => s_load1_box rfl (kn_opt rfl h) rfl rfl one_37) (Walk.gd _ rfl rfl rfl (fun h => s_len rfl (kn_opt rfl h) sle_37) (Walk.gd _ rfl rfl rfl (fun h => s_bin rfl (kn_opt rfl h) (kn_opt rfl h) v_lss) (w_op rfl rfl rfl (s_and rfl (kn rfl) (fun hb => kn_opt rfl hb)) .nil)))))))))))) ?_
    try refine e_fl ?_
    refine e_cond rfl (fun h => ?_) (fun h => ?_)
    · have hlt : k < (a.list).length ∧ k < (b.list).length := by simpa using h
      obtain ⟨x, hx⟩ : ∃ x, (a.list)[k]? = some x := ⟨_, List.getElem?_eq_getElem hlt.1⟩
      obtain ⟨y, hy⟩ : ∃ y, (b.list)[k]? = some y := ⟨_, List.getElem?_eq_getElem hlt.2⟩
      rw [drop_cons hx, drop_cons hy, lcmp_cons] at hw
      try refine e_fl ?_
      refine e_draw mixed (by kernel_rfl) (w_op rfl rfl rfl (s_faddr_box rfl (kn rfl) off_40_5) (w_op rfl rfl rfl (s_load1_box rfl (kn rfl) rfl rfl one_37) (w_mv rfl rfl rfl rfl rfl (w_op rfl rfl rfl (s_index rfl (kn rfl) (kn rfl) (by omega) hx Vl.dats_len sle_37 esz_37 (dats_vd x)) (w_op rfl rfl rfl (s_loadn_ref rfl (kn rfl) agg_40 sz_40) (w_op rfl rfl rfl (s_faddr_box rfl (kn rfl) off_40_5) (w_op rfl rfl rfl (s_load1_box rfl (kn rfl) rfl rfl one_37) (w_mv rfl rfl rfl rfl rfl (w_op rfl rfl rfl (s_index rfl (kn rfl) (kn rfl) (by omega) hy Vl.dats_len sle_37 esz_37 (dats_vd y)) (w_op rfl rfl rfl (s_loadn_ref rfl (kn rfl) agg_40 sz_40) (w_op rfl rfl rfl (s_call rfl (by kernel_rfl) (hl x (List.mem_of_getElem? hx) y (hb.elem (List.mem_of_getElem? hy))) ⟨(kn rfl), ⟨(kn rfl), trivial⟩⟩) (w_as rfl rfl rfl rfl rfl .nil)))))))))))) ?_
      try refine e_fl ?_
      refine e_plain (w_mv rfl rfl rfl rfl rfl (w_op rfl rfl rfl (s_bin rfl (kn rfl) (kn rfl) v_neq) .nil)) ?_
      try refine e_fl ?_
      refine e_cond rfl (fun h3 => ?_) (fun h3 => ?_)
      · rw [lex_ne (by simpa using h3)] at hw
        rw [← hw] at e
        try refine e_fl ?_
        refine e_plain (w_mv rfl rfl rfl rfl rfl (w_as rfl rfl rfl rfl rfl .nil)) ?_
        try refine e_fl ?_
        exact e_return rfl rfl (.tmp (kn rfl) (.nil)) (Imp.of_eq (by rw [e]; rfl)) rfl
      rw [lex_eq (by simpa using h3)] at hw
      try refine e_fl ?_
      refine e_plain (w_mv rfl rfl rfl rfl rfl (w_op rfl rfl rfl (s_bin rfl (kn rfl) (kn rfl) (v_add64 (by first | omega | (dsimp only; omega) | omega))) (w_as rfl rfl rfl rfl rfl .nil))) ?_
      try refine e_fl ?_
      refine e_again ⟨k + 1, by omega, by omega, hw⟩ (by dsimp only; omega) (fun K => e_sub ⟨s_t, s_t, s_t, trivial⟩ ⟨s_b, s_b, trivial⟩ trivial)
    · have hge : (a.list).length ≤ k ∨ (b.list).length ≤ k := by
        have : ¬ (k < (a.list).length ∧ k < (b.list).length) := by simpa using h
        omega
      have hend : lcmp (a.list) (b.list) = ncmp (a.list).length (b.list).length := by
        rw [← hw, lcmp_end _ _ (by rcases hge with h | h; exact .inl (List.drop_eq_nil_of_le h); exact .inr (List.drop_eq_nil_of_le h)), List.length_drop, List.length_drop, ncmp_drop _ _ _ hk hk2]
      try refine e_fl ?_
      rw [hend] at e
      refine e_plain (w_op rfl rfl rfl (s_faddr_box rfl (kn rfl) off_40_5) (w_op rfl rfl rfl (s_load1_box rfl (kn rfl) rfl rfl one_37) (w_op rfl rfl rfl (s_len rfl (kn rfl) sle_37) (w_op rfl rfl rfl (s_convk rfl (kn rfl) (by kernel_rfl) int_22 (by kernel_rfl) (wrap_u64 _ (by omega) (by omega))) (w_op rfl rfl rfl (s_faddr_box rfl (kn rfl) off_40_5) (w_op rfl rfl rfl (s_load1_box rfl (kn rfl) rfl rfl one_37) (w_op rfl rfl rfl (s_len rfl (kn rfl) sle_37) (w_op rfl rfl rfl (s_convk rfl (kn rfl) (by kernel_rfl) int_22 (by kernel_rfl) (wrap_u64 _ (by omega) (by omega))) (w_op rfl rfl rfl (s_call rfl (by kernel_rfl) (numbers_ef a.list.length b.list.length) ⟨(kn rfl), ⟨(kn rfl), trivial⟩⟩) (w_as rfl rfl rfl rfl rfl .nil)))))))))) ?_
      try refine e_fl ?_
      exact e_return rfl rfl (.tmp (kn rfl) (.nil)) (Imp.of_eq (by rw [e]; rfl)) rfl
  have n4 := of_decide_eq_false q4
  try refine e_fl ?_
  refine e_plain (w_op rfl rfl rfl (s_bin rfl (kn rfl) (kn rfl) v_eql) (w_as rfl rfl rfl rfl rfl .nil)) ?_
  try refine e_fl ?_
  refine e_cond rfl (fun q5 => ?_) (fun q5 => ?_)
  · have e : vcmp a b = pcmp a.pairs b.pairs := by rw [he]; exact (if_neg n1).trans ((if_neg n2).trans ((if_neg n3).trans ((if_neg n4).trans (if_pos (of_decide_eq_true q5)))))
    try refine e_fl ?_
    refine e_plain (w_as rfl rfl rfl rfl rfl .nil) ?_
    try refine e_fl ?_
    refine e_loop (ι := { k : Nat // k ≤ (a.pairs).length ∧ k ≤ (b.pairs).length ∧ pcmp ((a.pairs).drop k) ((b.pairs).drop k) = pcmp (a.pairs) (b.pairs) })
      (fun k => [(2, .box 2 0), (3, .box 3 0), (10, .is (.int .i64 (k.1 : Int)))])
      (fun _ => [(2, ⟨40, bcs (vd a)⟩), (3, ⟨40, bcs (vd b)⟩)]) (fun _ => []) (fun k => (a.pairs).length - k.1) ⟨0, by omega, by omega, by simp⟩
      (fun K => e_sub ⟨s_t, s_t, s_t, trivial⟩ ⟨s_b, s_b, trivial⟩ trivial) ?_
    rintro ⟨k, hk, hk2, hw⟩
    dsimp only at hk hk2 hw ⊢
    try refine e_fl ?_
    refine e_plain (w_mv rfl rfl rfl rfl rfl (w_op rfl rfl rfl (s_faddr_box rfl (kn rfl) off_40_6) (w_op rfl rfl rfl (s_load1_box rfl (kn rfl) rfl rfl one_38) (w_op rfl rfl rfl (s_len rfl (kn rfl) sle_38) (w_op rfl rfl rfl (s_bin rfl (kn rfl) (kn rfl) v_lss) (w_mv rfl rfl rfl rfl rfl (Walk.gd _ rfl rfl rfl (fun h => s_move rfl (kn rfl)) (Walk.gd _ rfl rfl rfl (fun h => s_faddr_box rfl (kn rfl) off_40_6) (Walk.gd _ rfl rfl rfl (fun h => s_load1_box rfl (kn_opt rfl h) rfl rfl one_38) (Walk.gd _ rfl rfl rfl (fun h => s_len rfl (kn_opt rfl h) sle_38) (Walk.gd _ rfl rfl rfl (fun h => s_bin rfl (kn_opt rfl h) (kn_opt rfl h) v_lss) (w_op rfl rfl rfl (s_and rfl (kn rfl) (fun hb => kn_opt rfl hb)) .nil)))))))))))) ?_
    try refine e_fl ?_
    refine e_cond rfl (fun h => ?_) (fun h => ?_)
    · have hlt : k < (a.pairs).length ∧ k < (b.pairs).length := by simpa using h
      obtain ⟨x, hx⟩ : ∃ x, (a.pairs)[k]? = some x := ⟨_, List.getElem?_eq_getElem hlt.1⟩
      obtain ⟨y, hy⟩ : ∃ y, (b.pairs)[k]? = some y := ⟨_, List.getElem?_eq_getElem hlt.2⟩
      rw [drop_cons hx, drop_cons hy, pcmp_cons] at hw
      try refine e_fl ?_
      refine e_draw mixed (by kernel_rfl) (w_op rfl rfl rfl (s_faddr_box rfl (kn rfl) off_40_6) (w_op rfl rfl rfl (s_load1_box rfl (kn rfl) rfl rfl one_38) (w_mv rfl rfl rfl rfl rfl (w_op rfl rfl rfl (s_index rfl (kn rfl) (kn rfl) (by omega) hx pairDats_len sle_38 esz_38 (pairDats_vd x)) (w_op rfl rfl rfl (s_faddr_ref rfl (kn rfl) off_84_0) (w_op rfl rfl rfl (s_loadk_ref 7 rfl (kn rfl) agg_40 sz_40 (Nat.le_of_ble_eq_true rfl)) (w_op rfl rfl rfl (s_faddr_box rfl (kn rfl) off_40_6) (w_op rfl rfl rfl (s_load1_box rfl (kn rfl) rfl rfl one_38) (w_mv rfl rfl rfl rfl rfl (w_op rfl rfl rfl (s_index rfl (kn rfl) (kn rfl) (by omega) hy pairDats_len sle_38 esz_38 (pairDats_vd y)) (w_op rfl rfl rfl (s_faddr_ref rfl (kn rfl) off_84_0) (w_op rfl rfl rfl (s_loadk_ref 7 rfl (kn rfl) agg_40 sz_40 (Nat.le_of_ble_eq_true rfl)) (w_op rfl rfl rfl (s_call rfl (by kernel_rfl) ((hp x (List.mem_of_getElem? hx)).1 y.1 (hb.pair (List.mem_of_getElem? hy)).1) ⟨(kn rfl), ⟨(kn rfl), trivial⟩⟩) (w_as rfl rfl rfl rfl rfl .nil)))))))))))))) ?_
      try refine e_fl ?_
      refine e_plain (w_mv rfl rfl rfl rfl rfl (w_op rfl rfl rfl (s_bin rfl (kn rfl) (kn rfl) v_neq) .nil)) ?_
      try refine e_fl ?_
      refine e_cond rfl (fun h3 => ?_) (fun h3 => ?_)
      · rw [lex_ne (by simpa using h3)] at hw
        rw [← hw] at e
        try refine e_fl ?_
        refine e_plain (w_mv rfl rfl rfl rfl rfl (w_as rfl rfl rfl rfl rfl .nil)) ?_
        try refine e_fl ?_
        exact e_return rfl rfl (.tmp (kn rfl) (.nil)) (Imp.of_eq (by rw [e]; rfl)) rfl
      rw [lex_eq (by simpa using h3)] at hw
      try refine e_fl ?_
      refine e_draw mixed (by kernel_rfl) (w_op rfl rfl rfl (s_faddr_box rfl (kn rfl) off_40_6) (w_op rfl rfl rfl (s_load1_box rfl (kn rfl) rfl rfl one_38) (w_mv rfl rfl rfl rfl rfl (w_op rfl rfl rfl (s_index rfl (kn rfl) (kn rfl) (by omega) hx pairDats_len sle_38 esz_38 (pairDats_vd x)) (w_op rfl rfl rfl (s_faddr_ref rfl (kn rfl) off_84_1) (w_op rfl rfl rfl (s_loadn_ref rfl (kn rfl) agg_40 sz_40) (w_op rfl rfl rfl (s_faddr_box rfl (kn rfl) off_40_6) (w_op rfl rfl rfl (s_load1_box rfl (kn rfl) rfl rfl one_38) (w_mv rfl rfl rfl rfl rfl (w_op rfl rfl rfl (s_index rfl (kn rfl) (kn rfl) (by omega) hy pairDats_len sle_38 esz_38 (pairDats_vd y)) (w_op rfl rfl rfl (s_faddr_ref rfl (kn rfl) off_84_1) (w_op rfl rfl rfl (s_loadn_ref rfl (kn rfl) agg_40 sz_40) (w_op rfl rfl rfl (s_call rfl (by kernel_rfl) ((hp x (List.mem_of_getElem? hx)).2 y.2 (hb.pair (List.mem_of_getElem? hy)).2) ⟨(kn rfl), ⟨(kn rfl), trivial⟩⟩) (w_as rfl rfl rfl rfl rfl .nil)))))))))))))) ?_
      try refine e_fl ?_
      refine e_plain (w_mv rfl rfl rfl rfl rfl (w_op rfl rfl rfl (s_bin rfl (kn rfl) (kn rfl) v_neq) .nil)) ?_
      try refine e_fl ?_
      refine e_cond rfl (fun h4 => ?_) (fun h4 => ?_)
      · rw [lex_ne (by simpa using h4)] at hw
        rw [← hw] at e
        try refine e_fl ?_
        refine e_plain (w_mv rfl rfl rfl rfl rfl (w_as rfl rfl rfl rfl rfl .nil)) ?_
        try refine e_fl ?_
        exact e_return rfl rfl (.tmp (kn rfl) (.nil)) (Imp.of_eq (by rw [e]; rfl)) rfl
      rw [lex_eq (by simpa using h4)] at hw
      try refine e_fl ?_
      refine e_plain (w_mv rfl rfl rfl rfl rfl (w_op rfl rfl rfl (s_bin rfl (kn rfl) (kn rfl) (v_add64 (by first | omega | (dsimp only; omega) | omega))) (w_as rfl rfl rfl rfl rfl .nil))) ?_
      try refine e_fl ?_
      refine e_again ⟨k + 1, by omega, by omega, hw⟩ (by dsimp only; omega) (fun K => e_sub ⟨s_t, s_t, s_t, trivial⟩ ⟨s_b, s_b, trivial⟩ trivial)
    · have hge : (a.pairs).length ≤ k ∨ (b.pairs).length ≤ k := by
        have : ¬ (k < (a.pairs).length ∧ k < (b.pairs).length) := by simpa using h
        omega
      have hend : pcmp (a.pairs) (b.pairs) = ncmp (a.pairs).length (b.pairs).length := by
        rw [← hw, pcmp_end _ _ (by rcases hge with h | h; exact .inl (List.drop_eq_nil_of_le h); exact .inr (List.drop_eq_nil_of_le h)), List.length_drop, List.length_drop, ncmp_drop _ _ _ hk hk2]
      try refine e_fl ?_
      rw [hend] at e
      refine e_plain (w_op rfl rfl rfl (s_faddr_box rfl (kn rfl) off_40_6) (w_op rfl rfl rfl (s_load1_box rfl (kn rfl) rfl rfl one_38) (w_op rfl rfl rfl (s_len rfl (kn rfl) sle_38) (w_op rfl rfl rfl (s_convk rfl (kn rfl) (by kernel_rfl) int_22 (by kernel_rfl) (wrap_u64 _ (by omega) (by omega))) (w_op rfl rfl rfl (s_faddr_box rfl (kn rfl) off_40_6) (w_op rfl rfl rfl (s_load1_box rfl (kn rfl) rfl rfl one_38) (w_op rfl rfl rfl (s_len rfl (kn rfl) sle_38) (w_op rfl rfl rfl (s_convk rfl (kn rfl) (by kernel_rfl) int_22 (by kernel_rfl) (wrap_u64 _ (by omega) (by omega))) (w_op rfl rfl rfl (s_call rfl (by kernel_rfl) (numbers_ef a.pairs.length b.pairs.length) ⟨(kn rfl), ⟨(kn rfl), trivial⟩⟩) (w_as rfl rfl rfl rfl rfl .nil)))))))))) ?_
      try refine e_fl ?_
      exact e_return rfl rfl (.tmp (kn rfl) (.nil)) (Imp.of_eq (by rw [e]; rfl)) rfl
  have n5 := of_decide_eq_false q5
  have e : vcmp a b = 0 := by rw [he]; exact (if_neg n1).trans ((if_neg n2).trans ((if_neg n3).trans ((if_neg n4).trans (if_neg n5))))
  try refine e_fl ?_
  refine e_plain (w_as rfl rfl rfl rfl rfl .nil) ?_
  try refine e_fl ?_
  exact e_return rfl rfl (.tmp (kn rfl) (.nil)) (Imp.of_eq (by rw [e]; rfl)) rfl
theorem cmp_ef (a : Vl) (ha : a.Fine) : CmpE 37 a := by
  revert ha
  refine Vl.parts (P := fun a => a.Fine → CmpE 37 a) (fun v hf hl hp ha => ?_) a
  exact cmp_step v ha (fun f h => hf f h (ha.field h).2) (fun x h => hl x h (ha.elem h)) (fun p h => ⟨(hp p h).1 (ha.pair h).1, (hp p h).2 (ha.pair h).2⟩)
set_option maxRecDepth 100000 in
theorem same_ef (a b : Vl) (ha : a.Fine) (hb : b.Fine) : EF Tryz.prog [] 14 [.many (vd a), .many (vd b)] (.part (tP (decide (vcmp a b = 0)))) := by
  refine ef_enter 9 Tryz.func14 rfl rfl rfl fun w D => ?_
  try refine e_fl ?_
  refine e_list ?_
  refine e_box 2 rfl rfl rfl rfl (kn rfl) rfl rfl rfl rfl ?_
  refine e_box 3 rfl rfl rfl rfl (kn rfl) rfl rfl rfl rfl ?_
  refine l_as ?_
  refine e_nil ?_
  try refine e_fl ?_
  refine e_plain (w_op rfl rfl rfl (s_loadn_box (ds := [_, _, _, _, _, _, _]) 7 rfl (kn rfl) rfl rfl agg_40 sz_40 rfl) (w_op rfl rfl rfl (s_loadn_box (ds := [_, _, _, _, _, _, _]) 7 rfl (kn rfl) rfl rfl agg_40 sz_40 rfl) (w_op rfl rfl rfl (s_call rfl (by kernel_rfl) (cmp_ef a ha b hb) ⟨(kn rfl), ⟨(kn rfl), trivial⟩⟩) (w_op rfl rfl rfl (s_bin rfl (kn rfl) (kn rfl) v_eql) (w_as rfl rfl rfl rfl rfl .nil))))) ?_
  try refine e_fl ?_
  exact e_return rfl rfl (.tmp (kn rfl) (.nil)) (Imp.of_eq rfl) rfl
end Go.Proofs.YtagoikglbifhmaaGreatDoor
namespace Go.Proofs.YtagoikglbifhmaaGreatDoor
open Go.RowKit
abbrev lP (l : List Vl) : Part := .one (.row 7 l.length (l.flatMap Vl.dats))
theorem gpairs_len (ps : List (Vl × Vl)) : (gpairs ps).length = 2 * ps.length := by
  induction ps with
  | nil => rfl
  | cons p ps ih => rw [gpairs_cons, List.length_cons, List.length_cons, ih, List.length_cons]; omega
theorem flat_one (l : List Vl) (x : Vl) : (l ++ [x]).flatMap Vl.dats = l.flatMap Vl.dats ++ vd x := by rw [List.flatMap_append, ← dats_vd]; simp
theorem rkids_len (v : Vl) (hn : vnodes v ≤ 1000000) : v.list.length + v.fields.length + 2 * v.pairs.length ≤ 1000000 := by
  have h1 := lnodes_len (rkids v)
  have h2 := rkids_nodes v
  have h3 : (rkids v).length = v.list.length + v.fields.length + 2 * v.pairs.length := by
    unfold rkids
    rw [List.length_append, List.length_append, List.length_map, gpairs_len]
  omega
end Go.Proofs.YtagoikglbifhmaaGreatDoor
namespace Go.Proofs.YtagoikglbifhmaaGreatDoor
open Go.RowKit
inductive Vl.Tx : Vl → Prop where
  | mk (v : Vl) : v.text.length ≤ 400 → v.rest.length ≤ 400 → (∀ x ∈ rkids v, Tx x) → Tx v
theorem Vl.Tx.texts {v : Vl} (h : v.Tx) : v.text.length ≤ 400 ∧ v.rest.length ≤ 400 := by
  cases h
  exact ⟨‹_›, ‹_›⟩
theorem Vl.Tx.kid {v x : Vl} (h : v.Tx) (hx : x ∈ rkids v) : x.Tx := by
  cases h with
  | mk v a b c => exact c x hx
theorem kids_mem {v x : Vl} : x ∈ rkids v ↔ x ∈ gkids v := by
  unfold rkids gkids gpairs
  simp only [List.mem_append]
  constructor
  · rintro ((h | h) | h)
    · exact .inr (.inl h)
    · exact .inl h
    · exact .inr (.inr h)
  · rintro (h | h | h)
    · exact .inl (.inr h)
    · exact .inl (.inl h)
    · exact .inr h
theorem Small.tx : ∀ {d : Nat} {v : Vl}, Small d v → v.Tx
  | 0, _, h => by cases h
  | d + 1, v, h => by
    obtain ⟨h1, h2, h3⟩ := h.parts
    exact .mk v h1 h2 fun x hx => (h3 x (kids_mem.1 hx)).tx
end Go.Proofs.YtagoikglbifhmaaGreatDoor
namespace Go.Proofs.YtagoikglbifhmaaGreatDoor
open Go.RowKit
def Vl.zero : Vl := .mk 0 0 [] [] [] [] []
def vget (v : Vl) (n : Int) : Vl := if v.kind = 3 then ((v.fields.find? fun f => f.1 == n).map (·.2)).getD .zero else .zero
def vfind (v key : Vl) : Vl := if v.kind = 5 then ((v.pairs.find? fun p => vcmp p.1 key == 0).map (·.2)).getD .zero else .zero
end Go.Proofs.YtagoikglbifhmaaGreatDoor
namespace Go.Proofs.YtagoikglbifhmaaGreatDoor
open Go.RowKit
abbrev zB : List IV := [.is (.int .i64 0), .is (.int .u64 0), .is (.string ⟨#[]⟩), .is (.slice none 0 0), .is (.string ⟨#[]⟩), .is (.slice none 0 0), .is (.slice none 0 0)]
end Go.Proofs.YtagoikglbifhmaaGreatDoor
