/- Part 18 of what the last text of this claim is proved by: walks over the program, and the math behind them. Conditions: as each theorem says. -/
import Derived.Test.YtagoikglbifhmaaGreatDoorPA17
import Derived.Test.YtagoikglbifhmaaGreatDoorProg
namespace Go.Proofs.YtagoikglbifhmaaGreatDoor
open Go.RowKit
def stDats (s : St) : List Dat := .cell (.int .i64 s.kind) :: .cell (.int .i64 s.num) :: .cell (.int .i64 s.to) :: s.key.dats
abbrev sd (s : St) : List Dat := .cell (.int .i64 s.kind) :: .cell (.int .i64 s.num) :: .cell (.int .i64 s.to) :: vd s.key
theorem stDats_sd (s : St) : stDats s = sd s := by unfold stDats; rw [dats_vd]
theorem stDats_len (s : St) : (stDats s).length = 10 := by rw [stDats_sd]; rfl
abbrev stD (p : List St) : Part := .one (.row 10 p.length (p.flatMap stDats))
set_option maxRecDepth 100000 in
theorem snum_ef (s : St) : EF Tryz.prog [] 65 [.many (sd s)] (.part (tP (snumR s))) := by
  refine ef_enter 22 Tryz.func65 rfl rfl rfl fun w D => ?_
  try refine e_fl ?_
  refine e_list ?_
  refine e_box 1 rfl rfl rfl rfl (kn rfl) rfl rfl rfl rfl ?_
  refine l_as ?_
  refine e_nil ?_
  try refine e_fl ?_
  refine e_plain (w_op rfl rfl rfl (s_faddr_box rfl (kn rfl) off_62_0) (w_op rfl rfl rfl (s_load1_box rfl (kn rfl) rfl rfl one_3) (w_op rfl rfl rfl (s_bin rfl (kn rfl) (kn rfl) v_eql) (w_mv rfl rfl rfl rfl rfl (Walk.gd _ rfl rfl rfl (fun h => s_faddr_box rfl (kn rfl) off_62_0) (Walk.gd _ rfl rfl rfl (fun h => s_load1_box rfl (kn_opt rfl h) rfl rfl one_3) (Walk.gd _ rfl rfl rfl (fun h => s_bin rfl (kn_opt rfl h) (kn rfl) v_eql) (w_op rfl rfl rfl (s_or rfl (kn rfl) (fun hb => kn_opt rfl hb)) .nil)))))))) ?_
  try refine e_fl ?_
  refine e_cond rfl (fun h => ?_) (fun h => ?_)
  · have e : snumR s = decide (s.num = 0) := if_pos (by simpa using h)
    try refine e_fl ?_
    refine e_plain (w_op rfl rfl rfl (s_faddr_box rfl (kn rfl) off_62_1) (w_op rfl rfl rfl (s_load1_box rfl (kn rfl) rfl rfl one_3) (w_op rfl rfl rfl (s_bin rfl (kn rfl) (kn rfl) v_eql) (w_as rfl rfl rfl rfl rfl .nil)))) ?_
    try refine e_fl ?_
    exact e_return rfl rfl (.tmp (kn rfl) (.nil)) (tP_eq e.symm) rfl
  · have e : snumR s = (decide (0 ≤ s.num) && decide (s.num ≤ 1073741824)) := if_neg (by simpa using h)
    try refine e_fl ?_
    refine e_plain (w_op rfl rfl rfl (s_faddr_box rfl (kn rfl) off_62_1) (w_op rfl rfl rfl (s_load1_box rfl (kn rfl) rfl rfl one_3) (w_op rfl rfl rfl (s_bin rfl (kn rfl) (kn rfl) v_geq) (w_mv rfl rfl rfl rfl rfl (Walk.gd _ rfl rfl rfl (fun h => s_faddr_box rfl (kn rfl) off_62_1) (Walk.gd _ rfl rfl rfl (fun h => s_load1_box rfl (kn_opt rfl h) rfl rfl one_3) (Walk.gd _ rfl rfl rfl (fun h => s_bin rfl (kn_opt rfl h) (kn rfl) v_leq) (w_op rfl rfl rfl (s_and rfl (kn rfl) (fun hb => kn_opt rfl hb)) (w_as rfl rfl rfl rfl rfl .nil))))))))) ?_
    try refine e_fl ?_
    exact e_return rfl rfl (.tmp (kn rfl) (.nil)) (tP_eq e.symm) rfl
set_option maxRecDepth 100000 in
theorem sto_ef (s : St) : EF Tryz.prog [] 66 [.many (sd s)] (.part (tP (stoR s))) := by
  refine ef_enter 19 Tryz.func66 rfl rfl rfl fun w D => ?_
  try refine e_fl ?_
  refine e_list ?_
  refine e_box 1 rfl rfl rfl rfl (kn rfl) rfl rfl rfl rfl ?_
  refine l_as ?_
  refine e_nil ?_
  try refine e_fl ?_
  refine e_plain (w_op rfl rfl rfl (s_faddr_box rfl (kn rfl) off_62_0) (w_op rfl rfl rfl (s_load1_box rfl (kn rfl) rfl rfl one_3) (w_op rfl rfl rfl (s_bin rfl (kn rfl) (kn rfl) v_eql) .nil))) ?_
  try refine e_fl ?_
  refine e_cond rfl (fun h => ?_) (fun h => ?_)
  · have e : stoR s = (decide (s.num ≤ s.to) && decide (s.to ≤ 1073741824)) := if_pos (by simpa using h)
    try refine e_fl ?_
    refine e_plain (w_op rfl rfl rfl (s_faddr_box rfl (kn rfl) off_62_2) (w_op rfl rfl rfl (s_load1_box rfl (kn rfl) rfl rfl one_3) (w_op rfl rfl rfl (s_faddr_box rfl (kn rfl) off_62_1) (w_op rfl rfl rfl (s_load1_box rfl (kn rfl) rfl rfl one_3) (w_op rfl rfl rfl (s_bin rfl (kn rfl) (kn rfl) v_geq) (w_mv rfl rfl rfl rfl rfl (Walk.gd _ rfl rfl rfl (fun h => s_faddr_box rfl (kn rfl) off_62_2) (Walk.gd _ rfl rfl rfl (fun h => s_load1_box rfl (kn_opt rfl h) rfl rfl one_3) (Walk.gd _ rfl rfl rfl (fun h => s_bin rfl (kn_opt rfl h) (kn rfl) v_leq) (w_op rfl rfl rfl (s_and rfl (kn rfl) (fun hb => kn_opt rfl hb)) (w_as rfl rfl rfl rfl rfl .nil))))))))))) ?_
    try refine e_fl ?_
    exact e_return rfl rfl (.tmp (kn rfl) (.nil)) (tP_eq e.symm) rfl
  · have e : stoR s = decide (s.to = 0) := if_neg (by simpa using h)
    try refine e_fl ?_
    refine e_plain (w_op rfl rfl rfl (s_faddr_box rfl (kn rfl) off_62_2) (w_op rfl rfl rfl (s_load1_box rfl (kn rfl) rfl rfl one_3) (w_op rfl rfl rfl (s_bin rfl (kn rfl) (kn rfl) v_eql) (w_as rfl rfl rfl rfl rfl .nil)))) ?_
    try refine e_fl ?_
    exact e_return rfl rfl (.tmp (kn rfl) (.nil)) (tP_eq e.symm) rfl
set_option maxRecDepth 100000 in
theorem skeyF_ef (s : St) : EF Tryz.prog [] 81 [.many (sd s)] (.part (tP (skeyF s))) := by
  refine ef_enter 27 Tryz.func81 rfl rfl rfl fun w D => ?_
  try refine e_fl ?_
  refine e_list ?_
  refine e_box 1 rfl rfl rfl rfl (kn rfl) rfl rfl rfl rfl ?_
  refine l_as ?_
  refine e_nil ?_
  try refine e_fl ?_
  refine e_plain (w_op rfl rfl rfl (s_faddr_box rfl (kn rfl) off_62_0) (w_op rfl rfl rfl (s_load1_box rfl (kn rfl) rfl rfl one_3) (w_op rfl rfl rfl (s_bin rfl (kn rfl) (kn rfl) v_neq) .nil))) ?_
  try refine e_fl ?_
  refine e_cond rfl (fun h => ?_) (fun h => ?_)
  · have e : skeyF s = decide (s.key.kind = 0) := if_neg (by simpa using h)
    try refine e_fl ?_
    refine e_plain (w_op rfl rfl rfl (s_faddr_box rfl (kn rfl) off_62_3) (w_op rfl rfl rfl (s_faddr_box rfl (kn rfl) off_27_0) (w_op rfl rfl rfl (s_load1_box rfl (kn rfl) rfl rfl one_3) (w_op rfl rfl rfl (s_bin rfl (kn rfl) (kn rfl) v_eql) (w_as rfl rfl rfl rfl rfl .nil))))) ?_
    try refine e_fl ?_
    exact e_return rfl rfl (.tmp (kn rfl) (.nil)) (tP_eq e.symm) rfl
  · have e : skeyF s = (decide (s.key.kind = 1) || (decide (s.key.kind = 2) && decide (s.key.text.length ≤ 4096))) := if_pos (by simpa using h)
    have e2 : decide (s.key.text.length ≤ 4096) = decide ((s.key.text.length : Int) ≤ 4096) := decide_eq_decide.2 (by omega)
    try refine e_fl ?_
    refine e_plain (w_op rfl rfl rfl (s_faddr_box rfl (kn rfl) off_62_3) (w_op rfl rfl rfl (s_faddr_box rfl (kn rfl) off_27_0) (w_op rfl rfl rfl (s_load1_box rfl (kn rfl) rfl rfl one_3) (w_op rfl rfl rfl (s_bin rfl (kn rfl) (kn rfl) v_eql) (w_mv rfl rfl rfl rfl rfl (Walk.gd _ rfl rfl rfl (fun h => s_faddr_box rfl (kn rfl) off_62_3) (Walk.gd _ rfl rfl rfl (fun h => s_faddr_box rfl (kn_opt rfl h) off_27_0) (Walk.gd _ rfl rfl rfl (fun h => s_load1_box rfl (kn_opt rfl h) rfl rfl one_3) (Walk.gd _ rfl rfl rfl (fun h => s_bin rfl (kn_opt rfl h) (kn rfl) v_eql) (Walk.gd _ rfl rfl rfl (fun h => s_move rfl (kn_opt rfl h)) (Walk.gd _ rfl rfl rfl (fun h => s_faddr_box rfl (kn rfl) off_62_3) (Walk.gd _ rfl rfl rfl (fun h => s_faddr_box rfl (kn_opt rfl h) off_27_2) (Walk.gd _ rfl rfl rfl (fun h => s_load1_box rfl (kn_opt rfl h) rfl rfl one_9) (Walk.gd _ rfl rfl rfl (fun h => s_slen rfl (kn_opt rfl h) str_9) (Walk.gd _ rfl rfl rfl (fun h => s_bin rfl (kn_opt rfl h) (kn rfl) v_leq) (Walk.gd _ rfl rfl rfl (fun h => s_and rfl (kn_opt rfl h) (fun hb => kn_opt rfl (gb h hb))) (w_op rfl rfl rfl (s_or rfl (kn rfl) (fun hb => kn_opt rfl hb)) (w_as rfl rfl rfl rfl rfl .nil)))))))))))))))))) ?_
    try refine e_fl ?_
    exact e_return rfl rfl (.tmp (kn rfl) (.nil)) (tP_eq (by rw [e, e2])) rfl
set_option maxRecDepth 100000 in
theorem skey_ef (s : St) (hs : Short s.key) : EF Tryz.prog [] 67 [.many (sd s)] (.part (tP (skeyF s && vright s.key))) := by
  refine ef_enter 10 Tryz.func67 rfl rfl rfl fun w D => ?_
  try refine e_fl ?_
  refine e_list ?_
  refine e_box 1 rfl rfl rfl rfl (kn rfl) rfl rfl rfl rfl ?_
  refine l_as ?_
  refine e_nil ?_
  try refine e_fl ?_
  refine e_plain (w_op rfl rfl rfl (s_loadn_box (ds := [_, _, _, _, _, _, _, _, _, _]) 10 rfl (kn rfl) rfl rfl agg_62 sz_62 rfl) (w_op rfl rfl rfl (s_call rfl (by kernel_rfl) (skeyF_ef s) ⟨(kn rfl), trivial⟩) (w_mv rfl rfl rfl rfl rfl (Walk.gd _ rfl rfl rfl (fun h => s_faddr_box rfl (kn rfl) off_62_3) (Walk.gd _ rfl rfl rfl (fun h => s_loadn_box (ds := [_, _, _, _, _, _, _]) 7 rfl (kn_opt rfl h) rfl rfl agg_27 sz_27 rfl) (Walk.gd _ rfl rfl rfl (fun h => s_call rfl (by kernel_rfl) (vright_ef s.key hs) ⟨(kn_opt rfl h), trivial⟩) (w_op rfl rfl rfl (s_and rfl (kn rfl) (fun hb => kn_opt rfl hb)) (w_as rfl rfl rfl rfl rfl .nil)))))))) ?_
  try refine e_fl ?_
  exact e_return rfl rfl (.tmp (kn rfl) (.nil)) (tP_eq rfl) rfl
theorem srt_wrong (s : St) : ((((decide (s.kind < 1) || decide (6 < s.kind)) || !snumR s) || !stoR s) || !(skeyF s && vright s.key)) = !srt s := by
  have h1 : decide (s.kind < 1) = !decide (1 ≤ s.kind) := by
    by_cases h : 1 ≤ s.kind
    · rw [decide_eq_true h, decide_eq_false (by omega)]; rfl
    · rw [decide_eq_false h, decide_eq_true (by omega)]; rfl
  have h2 : decide (6 < s.kind) = !decide (s.kind ≤ 6) := by
    by_cases h : s.kind ≤ 6
    · rw [decide_eq_true h, decide_eq_false (by omega)]; rfl
    · rw [decide_eq_false h, decide_eq_true (by omega)]; rfl
  unfold srt
  rw [h1, h2]
  generalize decide (1 ≤ s.kind) = a, decide (s.kind ≤ 6) = b, snumR s = c, stoR s = d, (skeyF s && vright s.key) = e
  cases a <;> cases b <;> cases c <;> cases d <;> cases e <;> rfl
set_option maxRecDepth 100000 in
set_option maxHeartbeats 1000000 in
theorem wrong_ef (s : St) (hs : Short s.key) : EF Tryz.prog [] 39 [.many (sd s)] (.part (tP (!srt s))) := by
  refine ef_enter 26 Tryz.func39 rfl rfl rfl fun w D => ?_
  try refine e_fl ?_
  refine e_list ?_
  refine e_box 1 rfl rfl rfl rfl (kn rfl) rfl rfl rfl rfl ?_
  refine l_as ?_
  refine e_nil ?_
  try refine e_fl ?_
  refine e_plain (w_op rfl rfl rfl (s_faddr_box rfl (kn rfl) off_62_0) (w_op rfl rfl rfl (s_load1_box rfl (kn rfl) rfl rfl one_3) (w_op rfl rfl rfl (s_bin rfl (kn rfl) (kn rfl) v_lss) (w_mv rfl rfl rfl rfl rfl (Walk.gd _ rfl rfl rfl (fun h => s_faddr_box rfl (kn rfl) off_62_0) (Walk.gd _ rfl rfl rfl (fun h => s_load1_box rfl (kn_opt rfl h) rfl rfl one_3) (Walk.gd _ rfl rfl rfl (fun h => s_bin rfl (kn_opt rfl h) (kn rfl) v_gtr) (w_op rfl rfl rfl (s_or rfl (kn rfl) (fun hb => kn_opt rfl hb)) (w_mv rfl rfl rfl rfl rfl (Walk.gd _ rfl rfl rfl (fun h => s_loadn_box (ds := [_, _, _, _, _, _, _, _, _, _]) 10 rfl (kn rfl) rfl rfl agg_62 sz_62 rfl) (Walk.gd _ rfl rfl rfl (fun h => s_call rfl (by kernel_rfl) (snum_ef s) ⟨(kn_opt rfl h), trivial⟩) (Walk.gd _ rfl rfl rfl (fun h => s_not rfl (kn_opt rfl h)) (w_op rfl rfl rfl (s_or rfl (kn rfl) (fun hb => kn_opt rfl hb)) (w_mv rfl rfl rfl rfl rfl (Walk.gd _ rfl rfl rfl (fun h => s_loadn_box (ds := [_, _, _, _, _, _, _, _, _, _]) 10 rfl (kn rfl) rfl rfl agg_62 sz_62 rfl) (Walk.gd _ rfl rfl rfl (fun h => s_call rfl (by kernel_rfl) (sto_ef s) ⟨(kn_opt rfl h), trivial⟩) (Walk.gd _ rfl rfl rfl (fun h => s_not rfl (kn_opt rfl h)) (w_op rfl rfl rfl (s_or rfl (kn rfl) (fun hb => kn_opt rfl hb)) (w_mv rfl rfl rfl rfl rfl (Walk.gd _ rfl rfl rfl (fun h => s_loadn_box (ds := [_, _, _, _, _, _, _, _, _, _]) 10 rfl (kn rfl) rfl rfl agg_62 sz_62 rfl) (Walk.gd _ rfl rfl rfl (fun h => s_call rfl (by kernel_rfl) (skey_ef s hs) ⟨(kn_opt rfl h), trivial⟩) (Walk.gd _ rfl rfl rfl (fun h => s_not rfl (kn_opt rfl h)) (w_op rfl rfl rfl (s_or rfl (kn rfl) (fun hb => kn_opt rfl hb)) (w_as rfl rfl rfl rfl rfl .nil)))))))))))))))))))))))) ?_
  try refine e_fl ?_
  exact e_return rfl rfl (.tmp (kn rfl) (.nil)) (tP_eq (srt_wrong s)) rfl
def fidx {α : Type} (p : α → Bool) : List α → Nat → Int
  | [], _ => -1
  | x :: l, k => if p x then (k : Int) else fidx p l (k + 1)
theorem fidx_any {α : Type} {p : α → Bool} : ∀ (l : List α) (k : Nat), decide ((0 : Int) ≤ fidx p l k) = l.any p
  | [], k => rfl
  | x :: l, k => by
    unfold fidx
    rw [List.any_cons]
    cases h : p x
    · rw [if_neg (by decide), fidx_any l (k + 1), Bool.false_or]
    · rw [if_pos rfl, Bool.true_or]
      exact decide_eq_true (by omega)
theorem fidx_here {α : Type} {p : α → Bool} {l : List α} {k : Nat} {x : α} {z : Int} (hx : l[k]? = some x) (h : z = fidx p (l.drop k) k) (hp : p x = true) : z = (k : Int) := by
  rw [h, drop_cons hx, fidx, if_pos hp]
theorem fidx_next {α : Type} {p : α → Bool} {l : List α} {k : Nat} {x : α} {z : Int} (hx : l[k]? = some x) (h : z = fidx p (l.drop k) k) (hp : p x = false) : z = fidx p (l.drop (k + 1)) (k + 1) := by
  rw [h, drop_cons hx, fidx, if_neg (by rw [hp]; decide)]
theorem fidx_end {α : Type} {p : α → Bool} {l : List α} {k : Nat} {z : Int} (hk : l.length ≤ k) (h : z = fidx p (l.drop k) k) : z = -1 := by
  rw [h, List.drop_eq_nil_of_le hk, fidx]
set_option maxRecDepth 100000 in
theorem idx_steps_ef (f : FuncId) (hfc : callable Tryz.prog f = true) (l : List St) (hl : l.length ≤ 1000000) (p : St → Bool) (hc : ∀ x ∈ l, EF Tryz.prog [] f [.many (sd x)] (.part (tP (p x)))) : EF Tryz.prog [] 64 [stD l, fP f] (.part (iP (fidx p l 0))) := by
  refine ef_enter 19 Tryz.func64 rfl rfl rfl fun w D => ?_
  try refine e_fl ?_
  refine e_plain (w_as rfl rfl rfl rfl rfl .nil) ?_
  try refine e_fl ?_
  refine e_plain (w_mv rfl rfl rfl rfl rfl (w_op rfl rfl rfl (s_len rfl (kn rfl) sle_29) (w_mv rfl rfl rfl rfl rfl .nil))) ?_
  try refine e_fl ?_
  refine e_loop (ι := { k : Nat // k ≤ l.length ∧ fidx p l 0 = fidx p (l.drop k) k })
    (fun k => [(0, .part (stD l)), (1, .part (fP f)), (7, .is (.int .i64 (l.length : Int))), (8, .is (.int .i64 (k.1 : Int)))])
    (fun _ => []) (fun _ => []) (fun k => l.length - k.1) ⟨0, by omega, rfl⟩
    (fun K => e_sub ⟨s_t, s_t, s_t, s_t, trivial⟩ trivial trivial) ?_
  rintro ⟨k, hk, hw⟩
  dsimp only at hk hw ⊢
  try refine e_fl ?_
  refine e_plain (w_op rfl rfl rfl (s_bin rfl (kn rfl) (kn rfl) v_lss) .nil) ?_
  try refine e_fl ?_
  refine e_cond rfl (fun h => ?_) (fun h => ?_)
  · have hlt : k < l.length := by have := of_decide_eq_true h; omega
    obtain ⟨x, hx⟩ : ∃ x, l[k]? = some x := ⟨_, List.getElem?_eq_getElem hlt⟩
    try refine e_fl ?_
    refine e_plain (w_mv rfl rfl rfl rfl rfl (w_as rfl rfl rfl rfl rfl .nil)) ?_
    try refine e_fl ?_
    refine e_plain (w_mv rfl rfl rfl rfl rfl (w_mv rfl rfl rfl rfl rfl (w_mv rfl rfl rfl rfl rfl (w_op rfl rfl rfl (s_index rfl (kn rfl) (kn rfl) (by omega) hx stDats_len sle_29 esz_29 (stDats_sd x)) (w_op rfl rfl rfl (s_loadn_ref rfl (kn rfl) agg_62 sz_62) (w_op rfl rfl rfl (s_callf rfl hfc (kn rfl) (hc x (List.mem_of_getElem? hx)) ⟨kn rfl, trivial⟩) .nil)))))) ?_
    try refine e_fl ?_
    refine e_cond rfl (fun h1 => ?_) (fun h1 => ?_)
    · have e := fidx_here hx hw h1
      try refine e_fl ?_
      refine e_plain (w_mv rfl rfl rfl rfl rfl (w_as rfl rfl rfl rfl rfl .nil)) ?_
      try refine e_fl ?_
      exact e_return rfl rfl (.tmp (kn rfl) (.nil)) (Imp.of_eq (by rw [e]; rfl)) rfl
    try refine e_fl ?_
    refine e_plain (w_op rfl rfl rfl (s_bin rfl (kn rfl) (kn rfl) (v_add64 (by first | omega | (dsimp only; omega) | omega))) (w_mv rfl rfl rfl rfl rfl .nil)) ?_
    try refine e_fl ?_
    refine e_again ⟨k + 1, by omega, fidx_next hx hw h1⟩ (by dsimp only; omega) (fun K => e_sub ⟨s_t, s_t, s_t, s_t, trivial⟩ trivial trivial)
  have e : fidx p l 0 = -1 := fidx_end (by have := of_decide_eq_false h; omega) hw
  try refine e_fl ?_
  refine e_plain (w_as rfl rfl rfl rfl rfl .nil) ?_
  try refine e_fl ?_
  exact e_return rfl rfl (.tmp (kn rfl) (.nil)) (Imp.of_eq (by rw [e]; rfl)) rfl
set_option maxRecDepth 100000 in
theorem has_steps_ef (f : FuncId) (hfc : callable Tryz.prog f = true) (l : List St) (hl : l.length ≤ 1000000) (p : St → Bool) (hc : ∀ x ∈ l, EF Tryz.prog [] f [.many (sd x)] (.part (tP (p x)))) : EF Tryz.prog [] 38 [stD l, fP f] (.part (tP (l.any p))) := by
  refine ef_enter 9 Tryz.func38 rfl rfl rfl fun w D => ?_
  try refine e_fl ?_
  refine e_plain (w_as rfl rfl rfl rfl rfl .nil) ?_
  try refine e_fl ?_
  refine e_plain (w_mv rfl rfl rfl rfl rfl (w_mv rfl rfl rfl rfl rfl (w_op rfl rfl rfl (s_call rfl (by kernel_rfl) (idx_steps_ef f hfc l hl p hc) ⟨(kn rfl), ⟨(kn rfl), trivial⟩⟩) (w_op rfl rfl rfl (s_bin rfl (kn rfl) (kn rfl) v_geq) (w_as rfl rfl rfl rfl rfl .nil))))) ?_
  try refine e_fl ?_
  exact e_return rfl rfl (.tmp (kn rfl) (.nil)) (tP_eq (fidx_any l 0)) rfl
theorem any_not {α : Type} (p : α → Bool) (l : List α) : (!l.any fun x => !p x) = l.all p := by
  induction l with
  | nil => rfl
  | cons x l ih => rw [List.any_cons, List.all_cons, ← ih, Bool.not_or, Bool.not_not]
def KeysShort (p : List St) : Prop := ∀ s ∈ p, Short s.key
set_option maxRecDepth 100000 in
theorem pright_ef (p : List St) (hl : p.length ≤ 1000000) (hp : KeysShort p) : EF Tryz.prog [] 15 [stD p] (.part (tP (p.all srt))) := by
  refine ef_enter 6 Tryz.func15 rfl rfl rfl fun w D => ?_
  try refine e_fl ?_
  refine e_plain (w_as rfl rfl rfl rfl rfl .nil) ?_
  try refine e_fl ?_
  refine e_plain (w_mv rfl rfl rfl rfl rfl (w_op rfl rfl rfl (s_call rfl (by kernel_rfl) (has_steps_ef 39 (by kernel_rfl) p hl (fun s => !srt s) (fun s hs => wrong_ef s (hp s hs))) ⟨(kn rfl), ⟨(kn rfl), trivial⟩⟩) (w_op rfl rfl rfl (s_not rfl (kn rfl)) (w_as rfl rfl rfl rfl rfl .nil)))) ?_
  try refine e_fl ?_
  exact e_return rfl rfl (.tmp (kn rfl) (.nil)) (tP_eq (any_not srt p)) rfl
def sameS (x y : St) : Bool := ((decide (x.kind = y.kind) && decide (x.num = y.num)) && decide (x.to = y.to)) && decide (vcmp x.key y.key = 0)
set_option maxRecDepth 100000 in
set_option maxHeartbeats 1000000 in
theorem ssame_ef (x y : St) (hx : Short x.key) (hy : Short y.key) : EF Tryz.prog [] 46 [.many (sd x), .many (sd y)] (.part (tP (sameS x y))) := by
  refine ef_enter 31 Tryz.func46 rfl rfl rfl fun w D => ?_
  try refine e_fl ?_
  refine e_list ?_
  refine e_box 2 rfl rfl rfl rfl (kn rfl) rfl rfl rfl rfl ?_
  refine e_box 3 rfl rfl rfl rfl (kn rfl) rfl rfl rfl rfl ?_
  refine l_as ?_
  refine e_nil ?_
  try refine e_fl ?_
  refine e_plain (w_op rfl rfl rfl (s_faddr_box rfl (kn rfl) off_62_0) (w_op rfl rfl rfl (s_load1_box rfl (kn rfl) rfl rfl one_3) (w_op rfl rfl rfl (s_faddr_box rfl (kn rfl) off_62_0) (w_op rfl rfl rfl (s_load1_box rfl (kn rfl) rfl rfl one_3) (w_op rfl rfl rfl (s_bin rfl (kn rfl) (kn rfl) v_eql) (w_mv rfl rfl rfl rfl rfl (Walk.gd _ rfl rfl rfl (fun h => s_faddr_box rfl (kn rfl) off_62_1) (Walk.gd _ rfl rfl rfl (fun h => s_load1_box rfl (kn_opt rfl h) rfl rfl one_3) (Walk.gd _ rfl rfl rfl (fun h => s_faddr_box rfl (kn rfl) off_62_1) (Walk.gd _ rfl rfl rfl (fun h => s_load1_box rfl (kn_opt rfl h) rfl rfl one_3) (Walk.gd _ rfl rfl rfl (fun h => s_bin rfl (kn_opt rfl h) (kn_opt rfl h) v_eql) (w_op rfl rfl rfl (s_and rfl (kn rfl) (fun hb => kn_opt rfl hb)) (w_mv rfl rfl rfl rfl rfl (Walk.gd _ rfl rfl rfl (fun h => s_faddr_box rfl (kn rfl) off_62_2) (Walk.gd _ rfl rfl rfl (fun h => s_load1_box rfl (kn_opt rfl h) rfl rfl one_3) (Walk.gd _ rfl rfl rfl (fun h => s_faddr_box rfl (kn rfl) off_62_2) (Walk.gd _ rfl rfl rfl (fun h => s_load1_box rfl (kn_opt rfl h) rfl rfl one_3) (Walk.gd _ rfl rfl rfl (fun h => s_bin rfl (kn_opt rfl h) (kn_opt rfl h) v_eql) (w_op rfl rfl rfl (s_and rfl (kn rfl) (fun hb => kn_opt rfl hb)) (w_mv rfl rfl rfl rfl rfl (Walk.gd _ rfl rfl rfl (fun h => s_faddr_box rfl (kn rfl) off_62_3) (Walk.gd _ rfl rfl rfl (fun h => s_loadn_box (ds := [_, _, _, _, _, _, _]) 7 rfl (kn_opt rfl h) rfl rfl agg_27 sz_27 rfl) (Walk.gd _ rfl rfl rfl (fun h => s_faddr_box rfl (kn rfl) off_62_3) (Walk.gd _ rfl rfl rfl (fun h => s_loadn_box (ds := [_, _, _, _, _, _, _]) 7 rfl (kn_opt rfl h) rfl rfl agg_27 sz_27 rfl) (Walk.gd _ rfl rfl rfl (fun h => s_call rfl (by kernel_rfl) (vsame_ef x.key y.key hx hy) ⟨(kn_opt rfl h), ⟨(kn_opt rfl h), trivial⟩⟩) (w_op rfl rfl rfl (s_and rfl (kn rfl) (fun hb => kn_opt rfl hb)) (w_as rfl rfl rfl rfl rfl .nil))))))))))))))))))))))))))) ?_
  try refine e_fl ?_
  exact e_return rfl rfl (.tmp (kn rfl) (.nil)) (tP_eq rfl) rfl
def all2 {α : Type} (e : α → α → Bool) : List α → List α → Bool
  | [], [] => true
  | x :: a, y :: b => e x y && all2 e a b
  | _, _ => false
theorem all2_len {α : Type} {e : α → α → Bool} : ∀ {a b : List α}, a.length ≠ b.length → all2 e a b = false
  | [], [], h => absurd rfl h
  | [], _ :: _, _ => rfl
  | _ :: _, [], _ => rfl
  | x :: a, y :: b, h => by
    unfold all2
    rw [all2_len (a := a) (b := b) (fun e => h (by simp [e])), Bool.and_false]
theorem all2_step {α : Type} {e : α → α → Bool} {a b : List α} {k : Nat} {x y : α} {z : Bool} (hx : a[k]? = some x) (hy : b[k]? = some y) (h : z = all2 e (a.drop k) (b.drop k)) : z = (e x y && all2 e (a.drop (k + 1)) (b.drop (k + 1))) := by
  rw [h, drop_cons hx, drop_cons hy, all2]
theorem all2_end {α : Type} {e : α → α → Bool} {a b : List α} {k : Nat} {z : Bool} (ha : a.length ≤ k) (hb : b.length ≤ k) (h : z = all2 e (a.drop k) (b.drop k)) : z = true := by
  rw [h, List.drop_eq_nil_of_le ha, List.drop_eq_nil_of_le hb, all2]
set_option maxRecDepth 100000 in
set_option maxHeartbeats 1000000 in
theorem eqf_steps_ef (f : FuncId) (hfc : callable Tryz.prog f = true) (a b : List St) (ha : a.length ≤ 1000000) (hb : b.length ≤ 1000000) (e : St → St → Bool) (hc : ∀ x ∈ a, ∀ y ∈ b, EF Tryz.prog [] f [.many (sd x), .many (sd y)] (.part (tP (e x y)))) : EF Tryz.prog [] 45 [stD a, stD b, fP f] (.part (tP (all2 e a b))) := by
  refine ef_enter 32 Tryz.func45 rfl rfl rfl fun w D => ?_
  try refine e_fl ?_
  refine e_plain (w_as rfl rfl rfl rfl rfl .nil) ?_
  try refine e_fl ?_
  refine e_plain (w_mv rfl rfl rfl rfl rfl (w_op rfl rfl rfl (s_len rfl (kn rfl) sle_29) (w_mv rfl rfl rfl rfl rfl (w_op rfl rfl rfl (s_len rfl (kn rfl) sle_29) (w_op rfl rfl rfl (s_bin rfl (kn rfl) (kn rfl) v_neq) .nil))))) ?_
  try refine e_fl ?_
  refine e_cond rfl (fun h => ?_) (fun h => ?_)
  · have q : all2 e a b = false := all2_len (by have h2 : ¬ (a.length : Int) = (b.length : Int) := (by simpa using h); omega)
    try refine e_fl ?_
    refine e_plain (w_as rfl rfl rfl rfl rfl .nil) ?_
    try refine e_fl ?_
    exact e_return rfl rfl (.tmp (kn rfl) (.nil)) (tP_eq q.symm) rfl
  have hab : a.length = b.length := by
    have h2 : (a.length : Int) = (b.length : Int) := by simpa using h
    omega
  try refine e_fl ?_
  refine e_plain (w_mv rfl rfl rfl rfl rfl (w_op rfl rfl rfl (s_len rfl (kn rfl) sle_29) (w_mv rfl rfl rfl rfl rfl .nil))) ?_
  try refine e_fl ?_
  refine e_loop (ι := { k : Nat // k ≤ a.length ∧ all2 e a b = all2 e (a.drop k) (b.drop k) })
    (fun k => [(1, .part (stD b)), (2, .part (fP f)), (15, .part (stD a)), (16, .is (.int .i64 (a.length : Int))), (17, .is (.int .i64 (k.1 : Int)))])
    (fun _ => []) (fun _ => []) (fun k => a.length - k.1) ⟨0, by omega, rfl⟩
    (fun K => e_sub ⟨s_t, s_t, s_t, s_t, s_t, trivial⟩ trivial trivial) ?_
  rintro ⟨k, hk, hw⟩
  dsimp only at hk hw ⊢
  try refine e_fl ?_
  refine e_plain (w_op rfl rfl rfl (s_bin rfl (kn rfl) (kn rfl) v_lss) .nil) ?_
  try refine e_fl ?_
  refine e_cond rfl (fun h1 => ?_) (fun h1 => ?_)
  · have hlt : k < a.length := by have := of_decide_eq_true h1; omega
    obtain ⟨x, hx⟩ : ∃ x, a[k]? = some x := ⟨_, List.getElem?_eq_getElem hlt⟩
    obtain ⟨y, hy⟩ : ∃ y, b[k]? = some y := ⟨_, List.getElem?_eq_getElem (by omega)⟩
    have hst := all2_step hx hy hw
    try refine e_fl ?_
    refine e_list ?_
    refine l_mv ?_
    refine l_op (s_index rfl (kn rfl) (kn rfl) (by omega) hx stDats_len sle_29 esz_29 (stDats_sd x)) ?_
    refine l_op (s_loadn_ref rfl (kn rfl) agg_62 sz_62) ?_
    refine e_alloc 8 [.is (.int .i64 0), .is (.int .i64 0), .is (.int .i64 0), .is (.int .i64 0), .is (.int .u64 0), .is (.string ⟨#[]⟩), .is (.slice none 0 0), .is (.string ⟨#[]⟩), .is (.slice none 0 0), .is (.slice none 0 0)] rfl rfl rfl rfl zr_62 (fun w D M V => ⟨rfl, fun j x v h1 h2 => cfit_is _ h1 h2 rfl⟩) rfl rfl rfl rfl ?_
    refine l_as ?_
    refine e_storew rfl rfl rfl (kn rfl) rfl (kn rfl) rfl rfl sz_62 ?_
    refine e_nil ?_
    try refine e_fl ?_
    refine e_list ?_
    refine l_mv ?_
    refine l_mv ?_
    refine l_op (s_index rfl (kn rfl) (kn rfl) (by omega) hy stDats_len sle_29 esz_29 (stDats_sd y)) ?_
    refine l_op (s_loadn_ref rfl (kn rfl) agg_62 sz_62) ?_
    refine e_alloc 9 [.is (.int .i64 0), .is (.int .i64 0), .is (.int .i64 0), .is (.int .i64 0), .is (.int .u64 0), .is (.string ⟨#[]⟩), .is (.slice none 0 0), .is (.string ⟨#[]⟩), .is (.slice none 0 0), .is (.slice none 0 0)] rfl rfl rfl rfl zr_62 (fun w D M V => ⟨rfl, fun j x v h1 h2 => cfit_is _ h1 h2 rfl⟩) rfl rfl rfl rfl ?_
    refine e_storew rfl rfl rfl (kn rfl) rfl (kn rfl) rfl rfl sz_62 ?_
    refine e_nil ?_
    try refine e_fl ?_
    refine e_plain (w_mv rfl rfl rfl rfl rfl (w_op rfl rfl rfl (s_loadn_box (ds := [_, _, _, _, _, _, _, _, _, _]) 10 rfl (kn rfl) rfl rfl agg_62 sz_62 rfl) (w_op rfl rfl rfl (s_loadn_box (ds := [_, _, _, _, _, _, _, _, _, _]) 10 rfl (kn rfl) rfl rfl agg_62 sz_62 rfl) (w_op rfl rfl rfl (s_callf rfl hfc (kn rfl) (hc x (List.mem_of_getElem? hx) y (List.mem_of_getElem? hy)) ⟨kn rfl, kn rfl, trivial⟩) (w_op rfl rfl rfl (s_not rfl (kn rfl)) .nil))))) ?_
    try refine e_fl ?_
    refine e_cond rfl (fun h2 => ?_) (fun h2 => ?_)
    · have q : all2 e a b = false := by
        rw [hst, show e x y = false by simpa using h2]
        rfl
      try refine e_fl ?_
      refine e_plain (w_as rfl rfl rfl rfl rfl .nil) ?_
      try refine e_fl ?_
      exact e_return rfl rfl (.tmp (kn rfl) (.nil)) (tP_eq q.symm) rfl
    try refine e_fl ?_
    refine e_plain (w_op rfl rfl rfl (s_bin rfl (kn rfl) (kn rfl) (v_add64 (by first | omega | (dsimp only; omega) | omega))) (w_mv rfl rfl rfl rfl rfl .nil)) ?_
    try refine e_fl ?_
    refine e_again ⟨k + 1, by omega, ?_⟩ (by dsimp only; omega) (fun K => e_sub ⟨s_t, s_t, s_t, s_t, s_t, trivial⟩ trivial trivial)
    rw [hst, show e x y = true by simpa using h2]
    rfl
  have q : all2 e a b = true := all2_end (k := k) (by have := of_decide_eq_false h1; omega) (by have := of_decide_eq_false h1; omega) hw
  try refine e_fl ?_
  refine e_plain (w_as rfl rfl rfl rfl rfl .nil) ?_
  try refine e_fl ?_
  exact e_return rfl rfl (.tmp (kn rfl) (.nil)) (tP_eq q.symm) rfl
def psame (a b : List St) : Bool := all2 sameS a b
theorem sameS_self (x : St) : sameS x x = true := by simp [sameS, vcmp_self]
theorem psame_self : ∀ a : List St, psame a a = true
  | [] => rfl
  | x :: a => by
    show (sameS x x && psame a a) = true
    rw [sameS_self, psame_self a]
    rfl
set_option maxRecDepth 100000 in
theorem psame_ef (a b : List St) (ha : a.length ≤ 1000000) (hb : b.length ≤ 1000000) (ka : KeysShort a) (kb : KeysShort b) : EF Tryz.prog [] 21 [stD a, stD b] (.part (tP (psame a b))) := by
  refine ef_enter 8 Tryz.func21 rfl rfl rfl fun w D => ?_
  try refine e_fl ?_
  refine e_plain (w_as rfl rfl rfl rfl rfl .nil) ?_
  try refine e_fl ?_
  refine e_plain (w_mv rfl rfl rfl rfl rfl (w_mv rfl rfl rfl rfl rfl (w_op rfl rfl rfl (s_call rfl (by kernel_rfl) (eqf_steps_ef 46 (by kernel_rfl) a b ha hb sameS (fun x hx y hy => ssame_ef x y (ka x hx) (kb y hy))) ⟨(kn rfl), ⟨(kn rfl), ⟨(kn rfl), trivial⟩⟩⟩) (w_as rfl rfl rfl rfl rfl .nil)))) ?_
  try refine e_fl ?_
  exact e_return rfl rfl (.tmp (kn rfl) (.nil)) (tP_eq rfl) rfl
def KeysFine (p : List St) : Prop := ∀ s ∈ p, s.key.Fine
end Go.Proofs.YtagoikglbifhmaaGreatDoor
namespace Go.Proofs.YtagoikglbifhmaaGreatDoor
open Go
theorem fright_iff (p : Int) (f : Int × Vl) (fs : List (Int × Vl)) : fright p (f :: fs) = true ↔ 1 ≤ f.1 ∧ f.1 ≤ 536870911 ∧ p < f.1 ∧ f.2.kind ≠ 0 ∧ vright f.2 = true ∧ fright f.1 fs = true := by
  obtain ⟨n, x⟩ := f
  rw [fright]
  simp only [Bool.and_eq_true, decide_eq_true_eq, and_assoc]
end Go.Proofs.YtagoikglbifhmaaGreatDoor
namespace Go.Proofs.YtagoikglbifhmaaGreatDoor
open Go
def gidx {α : Type} (c : α → Int) (l : List α) : Nat := (l.takeWhile fun x => decide (c x < 0)).length
def gfound {α : Type} [Inhabited α] (c : α → Int) (l : List α) : Bool := decide (gidx c l < l.length) && decide (c (l.getD (gidx c l) default) = 0)
theorem gidx_of {α : Type} {c : α → Int} : ∀ {l : List α} {i : Nat}, i ≤ l.length → (∀ (p : Nat) x, p < i → l[p]? = some x → c x < 0) → (∀ x, l[i]? = some x → ¬ c x < 0) → gidx c l = i
  | [], i, h, _, _ => by
    have : i = 0 := by simpa using h
    rw [this]; rfl
  | a :: l, 0, _, _, h2 => by
    unfold gidx
    rw [List.takeWhile_cons, decide_eq_false (h2 a rfl)]
    rfl
  | a :: l, i + 1, h, h1, h2 => by
    have ih := gidx_of (c := c) (l := l) (i := i) (by simpa using h) (fun p x hp hx => h1 (p + 1) x (by omega) (by simpa using hx)) (fun x hx => h2 x (by simpa using hx))
    unfold gidx at ih ⊢
    rw [List.takeWhile_cons, decide_eq_true (h1 0 a (by omega) rfl)]
    simp [ih]
theorem gidx_cons_lt {α : Type} {c : α → Int} {a : α} {l : List α} (h : c a < 0) : gidx c (a :: l) = gidx c l + 1 := by
  unfold gidx
  rw [List.takeWhile_cons, decide_eq_true h]
  rfl
theorem gidx_cons_ge {α : Type} {c : α → Int} {a : α} {l : List α} (h : ¬ c a < 0) : gidx c (a :: l) = 0 := by
  unfold gidx
  rw [List.takeWhile_cons, decide_eq_false h]
  rfl
theorem gfound_cons_lt {α : Type} [Inhabited α] {c : α → Int} {a : α} {l : List α} (h : c a < 0) : gfound c (a :: l) = gfound c l := by
  unfold gfound
  rw [gidx_cons_lt h]
  simp
theorem gfound_cons_ge {α : Type} [Inhabited α] {c : α → Int} {a : α} {l : List α} (h : ¬ c a < 0) : gfound c (a :: l) = decide (c a = 0) := by
  unfold gfound
  rw [gidx_cons_ge h]
  simp
def fto (n : Int) (f : Int × Vl) : Int := icmp f.1 n
theorem fright_mono {n : Int} : ∀ {p : Int} {fs : List (Int × Vl)}, fright p fs = true → ∀ (i j : Nat) (x y : Int × Vl), i ≤ j → fs[i]? = some x → fs[j]? = some y → fto n y < 0 → fto n x < 0
  | _, [], _, i, j, x, y, _, hx, _, _ => by simp at hx
  | p, f :: fs, h, 0, 0, x, y, _, hx, hy, hc => by
    have e : x = y := by simp at hx hy; rw [← hx, hy]
    rw [e]; exact hc
  | p, f :: fs, h, 0, j + 1, x, y, _, hx, hy, hc => by
    obtain ⟨h1, h2, h3, h4, h5, h6⟩ := (fright_iff p f fs).1 h
    have hl : ∀ {q : Int} {gs : List (Int × Vl)}, fright q gs = true → ∀ g ∈ gs, q < g.1 := by
      intro q gs
      induction gs generalizing q with
      | nil => intro _ g hg; cases hg
      | cons a gs ih =>
        intro h g hg
        obtain ⟨_, _, k3, _, _, k6⟩ := (fright_iff q a gs).1 h
        rcases List.mem_cons.1 hg with rfl | hg
        · exact k3
        · have := ih k6 g hg
          omega
    obtain rfl : f = x := by simpa using hx
    have hy' : y ∈ fs := List.mem_of_getElem? (i := j) (by simpa using hy)
    have := hl h6 y hy'
    rw [fto, icmp_neg_iff] at hc ⊢
    omega
  | p, f :: fs, h, i + 1, j + 1, x, y, hij, hx, hy, hc => by
    obtain ⟨h1, h2, h3, h4, h5, h6⟩ := (fright_iff p f fs).1 h
    exact fright_mono h6 i j x y (by omega) (by simpa using hx) (by simpa using hy) hc
  | _, _ :: _, _, _ + 1, 0, _, _, hij, _, _, _ => by omega
theorem find_found (n : Int) : ∀ {p : Int} {fs : List (Int × Vl)}, fright p fs = true → fs.find? (fun f => f.1 == n) = if gfound (fto n) fs then some (fs.getD (gidx (fto n) fs) default) else none
  | _, [], _ => by simp [gfound]
  | p, f :: fs, h => by
    obtain ⟨h1, h2, h3, h4, h5, h6⟩ := (fright_iff p f fs).1 h
    rcases Int.lt_or_le f.1 n with hlt | hge
    · have hc : fto n f < 0 := (icmp_neg_iff _ _).2 hlt
      rw [gfound_cons_lt hc, gidx_cons_lt hc, List.find?_cons, show (f.1 == n) = false by simpa using (by omega : ¬ f.1 = n)]
      simpa using find_found n h6
    · have hc : ¬ fto n f < 0 := fun h => by
        have := (icmp_neg_iff _ _).1 h
        omega
      have h0 : fto n f = 0 ↔ f.1 = n := by
        unfold fto icmp
        repeat' split
        all_goals omega
      rw [gfound_cons_ge hc, gidx_cons_ge hc, List.find?_cons]
      by_cases he : f.1 = n
      · rw [show (f.1 == n) = true by simpa using he, decide_eq_true (h0.2 he)]
        rfl
      · rw [show (f.1 == n) = false by simpa using he, decide_eq_false (fun h => he (h0.1 h))]
        have hno : ∀ {q : Int} {gs : List (Int × Vl)}, n ≤ q → fright q gs = true → gs.find? (fun f => f.1 == n) = none := by
          intro q gs
          induction gs generalizing q with
          | nil => intros; rfl
          | cons a gs ih =>
            intro hq h
            obtain ⟨_, _, k3, _, _, k6⟩ := (fright_iff q a gs).1 h
            rw [List.find?_cons, show (a.1 == n) = false by simpa using (by omega : ¬ a.1 = n)]
            exact ih (by omega) k6
        exact hno hge h6
def pto (k : Vl) (p : Vl × Vl) : Int := vcmp p.1 k
def Rises : List (Vl × Vl) → Prop
  | [] => True
  | p :: ps => (∀ q ∈ ps, vcmp p.1 q.1 < 0) ∧ Rises ps
theorem vcmp_lt {a b c : Vl} (h1 : vcmp a b < 0) (h2 : vcmp b c ≤ 0) : vcmp a c < 0 := (vcmp_tri a b c).2.1 h1 h2
theorem vcmp_lt2 {a b c : Vl} (h1 : vcmp a b ≤ 0) (h2 : vcmp b c < 0) : vcmp a c < 0 := (vcmp_tri a b c).2.2.1 h1 h2
theorem rises_of : ∀ {ps : List (Vl × Vl)}, grises pkeyc ps = true → Rises ps
  | [], _ => trivial
  | [p], _ => ⟨fun q hq => absurd hq (List.not_mem_nil), trivial⟩
  | p :: q :: ps, h => by
    rw [grises, Bool.and_eq_true] at h
    have h1 : vcmp p.1 q.1 < 0 := of_decide_eq_true h.1
    have ih := rises_of h.2
    refine ⟨fun r hr => ?_, ih⟩
    rcases List.mem_cons.1 hr with rfl | hr
    · exact h1
    · exact vcmp_lt h1 (Int.le_of_lt (ih.1 r hr))
theorem rises_right {v : Vl} (h : vright v = true) : Rises v.pairs := by
  rw [vright_eq] at h
  simp only [Bool.and_eq_true] at h
  have hp := h.2
  rw [pright_prog] at hp
  revert hp
  cases v.pairs with
  | nil => exact fun _ => trivial
  | cons p ps =>
    intro hp
    simp only [prights, Bool.or_eq_true, Bool.and_eq_true, reduceCtorEq, decide_false, Bool.false_eq_true, false_or] at hp
    exact rises_of hp.2.2
theorem pto_mono {k : Vl} : ∀ {ps : List (Vl × Vl)}, Rises ps → ∀ (i j : Nat) (x y : Vl × Vl), i ≤ j → ps[i]? = some x → ps[j]? = some y → pto k y < 0 → pto k x < 0
  | [], _, i, j, x, y, _, hx, _, _ => by simp at hx
  | p :: ps, h, 0, 0, x, y, _, hx, hy, hc => by
    have e : x = y := by simp at hx hy; rw [← hx, hy]
    rw [e]; exact hc
  | p :: ps, h, 0, j + 1, x, y, _, hx, hy, hc => by
    obtain rfl : p = x := by simpa using hx
    have hy' : y ∈ ps := List.mem_of_getElem? (i := j) (by simpa using hy)
    exact vcmp_lt (h.1 y hy') (Int.le_of_lt hc)
  | p :: ps, h, i + 1, j + 1, x, y, hij, hx, hy, hc => pto_mono h.2 i j x y (by omega) (by simpa using hx) (by simpa using hy) hc
  | _ :: _, _, _ + 1, 0, _, _, hij, _, _, _ => by omega
theorem findp_found (key : Vl) : ∀ {fs : List (Vl × Vl)}, Rises fs → fs.find? (fun p => vcmp p.1 key == 0) = if gfound (pto key) fs then some (fs.getD (gidx (pto key) fs) default) else none
  | [], _ => by simp [gfound]
  | f :: fs, h => by
    rcases Int.lt_or_le (vcmp f.1 key) 0 with hlt | hge
    · have hc : pto key f < 0 := hlt
      rw [gfound_cons_lt hc, gidx_cons_lt hc, List.find?_cons, show (vcmp f.1 key == 0) = false by simpa using (by omega : ¬ vcmp f.1 key = 0)]
      simpa using findp_found key h.2
    · have hc : ¬ pto key f < 0 := by show ¬ vcmp f.1 key < 0; omega
      rw [gfound_cons_ge hc, gidx_cons_ge hc, List.find?_cons]
      by_cases he : vcmp f.1 key = 0
      · rw [show (vcmp f.1 key == 0) = true by simpa using he, show decide (pto key f = 0) = true from decide_eq_true he]
        rfl
      · rw [show (vcmp f.1 key == 0) = false by simpa using he, show decide (pto key f = 0) = false from decide_eq_false he]
        show fs.find? (fun p => vcmp p.1 key == 0) = none
        rw [List.find?_eq_none]
        intro q hq
        have h1 := h.1 q hq
        have h5 := @vcmp_lt2 key f.1 q.1 (by have := vcmp_neg key f.1; omega) h1
        have h6 := vcmp_neg key q.1
        simp
        omega
end Go.Proofs.YtagoikglbifhmaaGreatDoor
