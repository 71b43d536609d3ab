/- Part 16 of what the last text of this claim is proved by: walks over the program, and the math behind them. Conditions: as each theorem says. -/
import Derived.Test.YtagoikglbifhmaaGreatDoorPB15
import Derived.Test.YtagoikglbifhmaaGreatDoorProg
namespace Go.Proofs.YtagoikglbifhmaaGreatDoor
open Go.RowKit
def stDats (s : St) : List Dat := .cell (.int .i64 s.kind) :: .cell (.int .i64 s.num) :: .cell (.int .i64 s.to) :: s.key.dats
abbrev sd (s : St) : List Dat := .cell (.int .i64 s.kind) :: .cell (.int .i64 s.num) :: .cell (.int .i64 s.to) :: vd s.key
theorem stDats_sd (s : St) : stDats s = sd s := by unfold stDats; rw [dats_vd]
theorem stDats_len (s : St) : (stDats s).length = 10 := by rw [stDats_sd]; rfl
abbrev stD (p : List St) : Part := .one (.row 10 p.length (p.flatMap stDats))
set_option maxRecDepth 100000 in
theorem snum_ef (s : St) : EF Tryz.prog [] 65 [.many (sd s)] (.part (tP (snumR s))) := by
  refine ef_enter 22 Tryz.func65 rfl rfl rfl fun w D => ?_
  try refine e_fl ?_
  refine e_list ?_
  refine e_box 1 rfl rfl rfl rfl (kn rfl) rfl rfl rfl rfl ?_
  refine l_as ?_
  refine e_nil ?_
  try refine e_fl ?_
  refine e_plain (w_op rfl rfl rfl (s_faddr_box rfl (kn rfl) off_62_0) (w_op rfl rfl rfl (s_load1_box rfl (kn rfl) rfl rfl one_3) (w_op rfl rfl rfl (s_bin rfl (kn rfl) (kn rfl) v_eql) (w_mv rfl rfl rfl rfl rfl (Walk.gd _ rfl rfl rfl (fun h => s_faddr_box rfl (kn rfl) off_62_0) (Walk.gd _ rfl rfl rfl (fun h => s_load1_box rfl (kn_opt rfl h) rfl rfl one_3) (Walk.gd _ rfl rfl rfl (fun h => s_bin rfl (kn_opt rfl h) (kn rfl) v_eql) (w_op rfl rfl rfl (s_or rfl (kn rfl) (fun hb => kn_opt rfl hb)) .nil)))))))) ?_
  try refine e_fl ?_
  refine e_cond rfl (fun h => ?_) (fun h => ?_)
  · have e : snumR s = decide (s.num = 0) := if_pos (by simpa using h)
    try refine e_fl ?_
    refine e_plain (w_op rfl rfl rfl (s_faddr_box rfl (kn rfl) off_62_1) (w_op rfl rfl rfl (s_load1_box rfl (kn rfl) rfl rfl one_3) (w_op rfl rfl rfl (s_bin rfl (kn rfl) (kn rfl) v_eql) (w_as rfl rfl rfl rfl rfl .nil)))) ?_
    try refine e_fl ?_
    exact e_return rfl rfl (.tmp (kn rfl) (.nil)) (tP_eq e.symm) rfl
  · have e : snumR s = (decide (0 ≤ s.num) && decide (s.num ≤ 1073741824)) := if_neg (by simpa using h)
    try refine e_fl ?_
    refine e_plain (w_op rfl rfl rfl (s_faddr_box rfl (kn rfl) off_62_1) (w_op rfl rfl rfl (s_load1_box rfl (kn rfl) rfl rfl one_3) (w_op rfl rfl rfl (s_bin rfl (kn rfl) (kn rfl) v_geq) (w_mv rfl rfl rfl rfl rfl (Walk.gd _ rfl rfl rfl (fun h => s_faddr_box rfl (kn rfl) off_62_1) (Walk.gd _ rfl rfl rfl (fun h => s_load1_box rfl (kn_opt rfl h) rfl rfl one_3) (Walk.gd _ rfl rfl rfl (fun h => s_bin rfl (kn_opt rfl h) (kn rfl) v_leq) (w_op rfl rfl rfl (s_and rfl (kn rfl) (fun hb => kn_opt rfl hb)) (w_as rfl rfl rfl rfl rfl .nil))))))))) ?_
    try refine e_fl ?_
    exact e_return rfl rfl (.tmp (kn rfl) (.nil)) (tP_eq e.symm) rfl
set_option maxRecDepth 100000 in
theorem sto_ef (s : St) : EF Tryz.prog [] 66 [.many (sd s)] (.part (tP (stoR s))) := by
  refine ef_enter 19 Tryz.func66 rfl rfl rfl fun w D => ?_
  try refine e_fl ?_
  refine e_list ?_
  refine e_box 1 rfl rfl rfl rfl (kn rfl) rfl rfl rfl rfl ?_
  refine l_as ?_
  refine e_nil ?_
  try refine e_fl ?_
  refine e_plain (w_op rfl rfl rfl (s_faddr_box rfl (kn rfl) off_62_0) (w_op rfl rfl rfl (s_load1_box rfl (kn rfl) rfl rfl one_3) (w_op rfl rfl rfl (s_bin rfl (kn rfl) (kn rfl) v_eql) .nil))) ?_
  try refine e_fl ?_
  refine e_cond rfl (fun h => ?_) (fun h => ?_)
  · have e : stoR s = (decide (s.num ≤ s.to) && decide (s.to ≤ 1073741824)) := if_pos (by simpa using h)
    try refine e_fl ?_
    refine e_plain (w_op rfl rfl rfl (s_faddr_box rfl (kn rfl) off_62_2) (w_op rfl rfl rfl (s_load1_box rfl (kn rfl) rfl rfl one_3) (w_op rfl rfl rfl (s_faddr_box rfl (kn rfl) off_62_1) (w_op rfl rfl rfl (s_load1_box rfl (kn rfl) rfl rfl one_3) (w_op rfl rfl rfl (s_bin rfl (kn rfl) (kn rfl) v_geq) (w_mv rfl rfl rfl rfl rfl (Walk.gd _ rfl rfl rfl (fun h => s_faddr_box rfl (kn rfl) off_62_2) (Walk.gd _ rfl rfl rfl (fun h => s_load1_box rfl (kn_opt rfl h) rfl rfl one_3) (Walk.gd _ rfl rfl rfl (fun h => s_bin rfl (kn_opt rfl h) (kn rfl) v_leq) (w_op rfl rfl rfl (s_and rfl (kn rfl) (fun hb => kn_opt rfl hb)) (w_as rfl rfl rfl rfl rfl .nil))))))))))) ?_
    try refine e_fl ?_
    exact e_return rfl rfl (.tmp (kn rfl) (.nil)) (tP_eq e.symm) rfl
  · have e : stoR s = decide (s.to = 0) := if_neg (by simpa using h)
    try refine e_fl ?_
    refine e_plain (w_op rfl rfl rfl (s_faddr_box rfl (kn rfl) off_62_2) (w_op rfl rfl rfl (s_load1_box rfl (kn rfl) rfl rfl one_3) (w_op rfl rfl rfl (s_bin rfl (kn rfl) (kn rfl) v_eql) (w_as rfl rfl rfl rfl rfl .nil)))) ?_
    try refine e_fl ?_
    exact e_return rfl rfl (.tmp (kn rfl) (.nil)) (tP_eq e.symm) rfl
set_option maxRecDepth 100000 in
theorem skeyF_ef (s : St) : EF Tryz.prog [] 81 [.many (sd s)] (.part (tP (skeyF s))) := by
  refine ef_enter 27 Tryz.func81 rfl rfl rfl fun w D => ?_
  try refine e_fl ?_
  refine e_list ?_
  refine e_box 1 rfl rfl rfl rfl (kn rfl) rfl rfl rfl rfl ?_
  refine l_as ?_
  refine e_nil ?_
  try refine e_fl ?_
  refine e_plain (w_op rfl rfl rfl (s_faddr_box rfl (kn rfl) off_62_0) (w_op rfl rfl rfl (s_load1_box rfl (kn rfl) rfl rfl one_3) (w_op rfl rfl rfl (s_bin rfl (kn rfl) (kn rfl) v_neq) .nil))) ?_
  try refine e_fl ?_
  refine e_cond rfl (fun h => ?_) (fun h => ?_)
  · have e : skeyF s = decide (s.key.kind = 0) := if_neg (by simpa using h)
    try refine e_fl ?_
    refine e_plain (w_op rfl rfl rfl (s_faddr_box rfl (kn rfl) off_62_3) (w_op rfl rfl rfl (s_faddr_box rfl (kn rfl) off_27_0) (w_op rfl rfl rfl (s_load1_box rfl (kn rfl) rfl rfl one_3) (w_op rfl rfl rfl (s_bin rfl (kn rfl) (kn rfl) v_eql) (w_as rfl rfl rfl rfl rfl .nil))))) ?_
    try refine e_fl ?_
    exact e_return rfl rfl (.tmp (kn rfl) (.nil)) (tP_eq e.symm) rfl
  · have e : skeyF s = (decide (s.key.kind = 1) || (decide (s.key.kind = 2) && decide (s.key.text.length ≤ 4096))) := if_pos (by simpa using h)
    have e2 : decide (s.key.text.length ≤ 4096) = decide ((s.key.text.length : Int) ≤ 4096) := decide_eq_decide.2 (by omega)
    try refine e_fl ?_
    refine e_plain (w_op rfl rfl rfl (s_faddr_box rfl (kn rfl) off_62_3) (w_op rfl rfl rfl (s_faddr_box rfl (kn rfl) off_27_0) (w_op rfl rfl rfl (s_load1_box rfl (kn rfl) rfl rfl one_3) (w_op rfl rfl rfl (s_bin rfl (kn rfl) (kn rfl) v_eql) (w_mv rfl rfl rfl rfl rfl (Walk.gd _ rfl rfl rfl (fun h => s_faddr_box rfl (kn rfl) off_62_3) (Walk.gd _ rfl rfl rfl (fun h => s_faddr_box rfl (kn_opt rfl h) off_27_0) (Walk.gd _ rfl rfl rfl (fun h => s_load1_box rfl (kn_opt rfl h) rfl rfl one_3) (Walk.gd _ rfl rfl rfl (fun h => s_bin rfl (kn_opt rfl h) (kn rfl) v_eql) (Walk.gd _ rfl rfl rfl (fun h => s_move rfl (kn_opt rfl h)) (Walk.gd _ rfl rfl rfl (fun h => s_faddr_box rfl (kn rfl) off_62_3) (Walk.gd _ rfl rfl rfl (fun h => s_faddr_box rfl (kn_opt rfl h) off_27_2) (Walk.gd _ rfl rfl rfl (fun h => s_load1_box rfl (kn_opt rfl h) rfl rfl one_9) (Walk.gd _ rfl rfl rfl (fun h => s_slen rfl (kn_opt rfl h) str_9) (Walk.gd _ rfl rfl rfl (fun h => s_bin rfl (kn_opt rfl h) (kn rfl) v_leq) (Walk.gd _ rfl rfl rfl (fun h => s_and rfl (kn_opt rfl h) (fun hb => kn_opt rfl (gb h hb))) (w_op rfl rfl rfl (s_or rfl (kn rfl) (fun hb => kn_opt rfl hb)) (w_as rfl rfl rfl rfl rfl .nil)))))))))))))))))) ?_
    try refine e_fl ?_
    exact e_return rfl rfl (.tmp (kn rfl) (.nil)) (tP_eq (by rw [e, e2])) rfl
set_option maxRecDepth 100000 in
theorem skey_ef (s : St) (hs : Short s.key) : EF Tryz.prog [] 67 [.many (sd s)] (.part (tP (skeyF s && vright s.key))) := by
  refine ef_enter 10 Tryz.func67 rfl rfl rfl fun w D => ?_
  try refine e_fl ?_
  refine e_list ?_
  refine e_box 1 rfl rfl rfl rfl (kn rfl) rfl rfl rfl rfl ?_
  refine l_as ?_
  refine e_nil ?_
  try refine e_fl ?_
  refine e_plain (w_op rfl rfl rfl (s_loadn_box (ds := [_, _, _, _, _, _, _, _, _, _]) 10 rfl (kn rfl) rfl rfl agg_62 sz_62 rfl) (w_op rfl rfl rfl (s_call rfl (by kernel_rfl) (skeyF_ef s) ⟨(kn rfl), trivial⟩) (w_mv rfl rfl rfl rfl rfl (Walk.gd _ rfl rfl rfl (fun h => s_faddr_box rfl (kn rfl) off_62_3) (Walk.gd _ rfl rfl rfl (fun h => s_loadn_box (ds := [_, _, _, _, _, _, _]) 7 rfl (kn_opt rfl h) rfl rfl agg_27 sz_27 rfl) (Walk.gd _ rfl rfl rfl (fun h => s_call rfl (by kernel_rfl) (vright_ef s.key hs) ⟨(kn_opt rfl h), trivial⟩) (w_op rfl rfl rfl (s_and rfl (kn rfl) (fun hb => kn_opt rfl hb)) (w_as rfl rfl rfl rfl rfl .nil)))))))) ?_
  try refine e_fl ?_
  exact e_return rfl rfl (.tmp (kn rfl) (.nil)) (tP_eq rfl) rfl
theorem srt_wrong (s : St) : ((((decide (s.kind < 1) || decide (6 < s.kind)) || !snumR s) || !stoR s) || !(skeyF s && vright s.key)) = !srt s := by
  have h1 : decide (s.kind < 1) = !decide (1 ≤ s.kind) := by
    by_cases h : 1 ≤ s.kind
    · rw [decide_eq_true h, decide_eq_false (by omega)]; rfl
    · rw [decide_eq_false h, decide_eq_true (by omega)]; rfl
  have h2 : decide (6 < s.kind) = !decide (s.kind ≤ 6) := by
    by_cases h : s.kind ≤ 6
    · rw [decide_eq_true h, decide_eq_false (by omega)]; rfl
    · rw [decide_eq_false h, decide_eq_true (by omega)]; rfl
  unfold srt
  rw [h1, h2]
  generalize decide (1 ≤ s.kind) = a, decide (s.kind ≤ 6) = b, snumR s = c, stoR s = d, (skeyF s && vright s.key) = e
  cases a <;> cases b <;> cases c <;> cases d <;> cases e <;> rfl
set_option maxRecDepth 100000 in
set_option maxHeartbeats 1000000 in
theorem wrong_ef (s : St) (hs : Short s.key) : EF Tryz.prog [] 39 [.many (sd s)] (.part (tP (!srt s))) := by
  refine ef_enter 26 Tryz.func39 rfl rfl rfl fun w D => ?_
  try refine e_fl ?_
  refine e_list ?_
  refine e_box 1 rfl rfl rfl rfl (kn rfl) rfl rfl rfl rfl ?_
  refine l_as ?_
  refine e_nil ?_
  try refine e_fl ?_
  refine e_plain (w_op rfl rfl rfl (s_faddr_box rfl (kn rfl) off_62_0) (w_op rfl rfl rfl (s_load1_box rfl (kn rfl) rfl rfl one_3) (w_op rfl rfl rfl (s_bin rfl (kn rfl) (kn rfl) v_lss) (w_mv rfl rfl rfl rfl rfl (Walk.gd _ rfl rfl rfl (fun h => s_faddr_box rfl (kn rfl) off_62_0) (Walk.gd _ rfl rfl rfl (fun h => s_load1_box rfl (kn_opt rfl h) rfl rfl one_3) (Walk.gd _ rfl rfl rfl (fun h => s_bin rfl (kn_opt rfl h) (kn rfl) v_gtr) (w_op rfl rfl rfl (s_or rfl (kn rfl) (fun hb => kn_opt rfl hb)) (w_mv rfl rfl rfl rfl rfl (Walk.gd _ rfl rfl rfl (fun h => s_loadn_box (ds := [_, _, _, _, _, _, _, _, _, _]) 10 rfl (kn rfl) rfl rfl agg_62 sz_62 rfl) (Walk.gd _ rfl rfl rfl (fun h => s_call rfl (by kernel_rfl) (snum_ef s) ⟨(kn_opt rfl h), trivial⟩) (Walk.gd _ rfl rfl rfl (fun h => s_not rfl (kn_opt rfl h)) (w_op rfl rfl rfl (s_or rfl (kn rfl) (fun hb => kn_opt rfl hb)) (w_mv rfl rfl rfl rfl rfl (Walk.gd _ rfl rfl rfl (fun h => s_loadn_box (ds := [_, _, _, _, _, _, _, _, _, _]) 10 rfl (kn rfl) rfl rfl agg_62 sz_62 rfl) (Walk.gd _ rfl rfl rfl (fun h => s_call rfl (by kernel_rfl) (sto_ef s) ⟨(kn_opt rfl h), trivial⟩) (Walk.gd _ rfl rfl rfl (fun h => s_not rfl (kn_opt rfl h)) (w_op rfl rfl rfl (s_or rfl (kn rfl) (fun hb => kn_opt rfl hb)) (w_mv rfl rfl rfl rfl rfl (Walk.gd _ rfl rfl rfl (fun h => s_loadn_box (ds := [_, _, _, _, _, _, _, _, _, _]) 10 rfl (kn rfl) rfl rfl agg_62 sz_62 rfl) (Walk.gd _ rfl rfl rfl (fun h => s_call rfl (by kernel_rfl) (skey_ef s hs) ⟨(kn_opt rfl h), trivial⟩) (Walk.gd _ rfl rfl rfl (fun h => s_not rfl (kn_opt rfl h)) (w_op rfl rfl rfl (s_or rfl (kn rfl) (fun hb => kn_opt rfl hb)) (w_as rfl rfl rfl rfl rfl .nil)))))))))))))))))))))))) ?_
  try refine e_fl ?_
  exact e_return rfl rfl (.tmp (kn rfl) (.nil)) (tP_eq (srt_wrong s)) rfl
def fidx {α : Type} (p : α → Bool) : List α → Nat → Int
  | [], _ => -1
  | x :: l, k => if p x then (k : Int) else fidx p l (k + 1)
theorem fidx_any {α : Type} {p : α → Bool} : ∀ (l : List α) (k : Nat), decide ((0 : Int) ≤ fidx p l k) = l.any p
  | [], k => rfl
  | x :: l, k => by
    unfold fidx
    rw [List.any_cons]
    cases h : p x
    · rw [if_neg (by decide), fidx_any l (k + 1), Bool.false_or]
    · rw [if_pos rfl, Bool.true_or]
      exact decide_eq_true (by omega)
theorem fidx_here {α : Type} {p : α → Bool} {l : List α} {k : Nat} {x : α} {z : Int} (hx : l[k]? = some x) (h : z = fidx p (l.drop k) k) (hp : p x = true) : z = (k : Int) := by
  rw [h, drop_cons hx, fidx, if_pos hp]
theorem fidx_next {α : Type} {p : α → Bool} {l : List α} {k : Nat} {x : α} {z : Int} (hx : l[k]? = some x) (h : z = fidx p (l.drop k) k) (hp : p x = false) : z = fidx p (l.drop (k + 1)) (k + 1) := by
  rw [h, drop_cons hx, fidx, if_neg (by rw [hp]; decide)]
theorem fidx_end {α : Type} {p : α → Bool} {l : List α} {k : Nat} {z : Int} (hk : l.length ≤ k) (h : z = fidx p (l.drop k) k) : z = -1 := by
  rw [h, List.drop_eq_nil_of_le hk, fidx]
set_option maxRecDepth 100000 in
theorem idx_steps_ef (f : FuncId) (hfc : callable Tryz.prog f = true) (l : List St) (hl : l.length ≤ 1000000) (p : St → Bool) (hc : ∀ x ∈ l, EF Tryz.prog [] f [.many (sd x)] (.part (tP (p x)))) : EF Tryz.prog [] 64 [stD l, fP f] (.part (iP (fidx p l 0))) := by
  refine ef_enter 19 Tryz.func64 rfl rfl rfl fun w D => ?_
  try refine e_fl ?_
  refine e_plain (w_as rfl rfl rfl rfl rfl .nil) ?_
  try refine e_fl ?_
  refine e_plain (w_mv rfl rfl rfl rfl rfl (w_op rfl rfl rfl (s_len rfl (kn rfl) sle_29) (w_mv rfl rfl rfl rfl rfl .nil))) ?_
  try refine e_fl ?_
  refine e_loop (ι := { k : Nat // k ≤ l.length ∧ fidx p l 0 = fidx p (l.drop k) k })
    (fun k => [(0, .part (stD l)), (1, .part (fP f)), (7, .is (.int .i64 (l.length : Int))), (8, .is (.int .i64 (k.1 : Int)))])
    (fun _ => []) (fun _ => []) (fun k => l.length - k.1) ⟨0, by omega, rfl⟩
    (fun K => e_sub ⟨s_t, s_t, s_t, s_t, trivial⟩ trivial trivial) ?_
  rintro ⟨k, hk, hw⟩
  dsimp only at hk hw ⊢
  try refine e_fl ?_
  refine e_plain (w_op rfl rfl rfl (s_bin rfl (kn rfl) (kn rfl) v_lss) .nil) ?_
  try refine e_fl ?_
  refine e_cond rfl (fun h => ?_) (fun h => ?_)
  · have hlt : k < l.length := by have := of_decide_eq_true h; omega
    obtain ⟨x, hx⟩ : ∃ x, l[k]? = some x := ⟨_, List.getElem?_eq_getElem hlt⟩
    try refine e_fl ?_
    refine e_plain (w_mv rfl rfl rfl rfl rfl (w_as rfl rfl rfl rfl rfl .nil)) ?_
    try refine e_fl ?_
    refine e_plain (w_mv rfl rfl rfl rfl rfl (w_mv rfl rfl rfl rfl rfl (w_mv rfl rfl rfl rfl rfl (w_op rfl rfl rfl (s_index rfl (kn rfl) (kn rfl) (by omega) hx stDats_len sle_29 esz_29 (stDats_sd x)) (w_op rfl rfl rfl (s_loadn_ref rfl (kn rfl) agg_62 sz_62) (w_op rfl rfl rfl (s_callf rfl hfc (kn rfl) (hc x (List.mem_of_getElem? hx)) ⟨kn rfl, trivial⟩) .nil)))))) ?_
    try refine e_fl ?_
    refine e_cond rfl (fun h1 => ?_) (fun h1 => ?_)
    · have e := fidx_here hx hw h1
      try refine e_fl ?_
      refine e_plain (w_mv rfl rfl rfl rfl rfl (w_as rfl rfl rfl rfl rfl .nil)) ?_
      try refine e_fl ?_
      exact e_return rfl rfl (.tmp (kn rfl) (.nil)) (Imp.of_eq (by rw [e]; rfl)) rfl
    try refine e_fl ?_
    refine e_plain (w_op rfl rfl rfl (s_bin rfl (kn rfl) (kn rfl) (v_add64 (by first | omega | (dsimp only; omega) | omega))) (w_mv rfl rfl rfl rfl rfl .nil)) ?_
    try refine e_fl ?_
    refine e_again ⟨k + 1, by omega, fidx_next hx hw h1⟩ (by dsimp only; omega) (fun K => e_sub ⟨s_t, s_t, s_t, s_t, trivial⟩ trivial trivial)
  have e : fidx p l 0 = -1 := fidx_end (by have := of_decide_eq_false h; omega) hw
  try refine e_fl ?_
  refine e_plain (w_as rfl rfl rfl rfl rfl .nil) ?_
  try refine e_fl ?_
  exact e_return rfl rfl (.tmp (kn rfl) (.nil)) (Imp.of_eq (by rw [e]; rfl)) rfl
set_option maxRecDepth 100000 in
theorem has_steps_ef (f : FuncId) (hfc : callable Tryz.prog f = true) (l : List St) (hl : l.length ≤ 1000000) (p : St → Bool) (hc : ∀ x ∈ l, EF Tryz.prog [] f [.many (sd x)] (.part (tP (p x)))) : EF Tryz.prog [] 38 [stD l, fP f] (.part (tP (l.any p))) := by
  refine ef_enter 9 Tryz.func38 rfl rfl rfl fun w D => ?_
  try refine e_fl ?_
  refine e_plain (w_as rfl rfl rfl rfl rfl .nil) ?_
  try refine e_fl ?_
  refine e_plain (w_mv rfl rfl rfl rfl rfl (w_mv rfl rfl rfl rfl rfl (w_op rfl rfl rfl (s_call rfl (by kernel_rfl) (idx_steps_ef f hfc l hl p hc) ⟨(kn rfl), ⟨(kn rfl), trivial⟩⟩) (w_op rfl rfl rfl (s_bin rfl (kn rfl) (kn rfl) v_geq) (w_as rfl rfl rfl rfl rfl .nil))))) ?_
  try refine e_fl ?_
  exact e_return rfl rfl (.tmp (kn rfl) (.nil)) (tP_eq (fidx_any l 0)) rfl
theorem any_not {α : Type} (p : α → Bool) (l : List α) : (!l.any fun x => !p x) = l.all p := by
  induction l with
  | nil => rfl
  | cons x l ih => rw [List.any_cons, List.all_cons, ← ih, Bool.not_or, Bool.not_not]
def KeysShort (p : List St) : Prop := ∀ s ∈ p, Short s.key
set_option maxRecDepth 100000 in
theorem pright_ef (p : List St) (hl : p.length ≤ 1000000) (hp : KeysShort p) : EF Tryz.prog [] 15 [stD p] (.part (tP (p.all srt))) := by
  refine ef_enter 6 Tryz.func15 rfl rfl rfl fun w D => ?_
  try refine e_fl ?_
  refine e_plain (w_as rfl rfl rfl rfl rfl .nil) ?_
  try refine e_fl ?_
  refine e_plain (w_mv rfl rfl rfl rfl rfl (w_op rfl rfl rfl (s_call rfl (by kernel_rfl) (has_steps_ef 39 (by kernel_rfl) p hl (fun s => !srt s) (fun s hs => wrong_ef s (hp s hs))) ⟨(kn rfl), ⟨(kn rfl), trivial⟩⟩) (w_op rfl rfl rfl (s_not rfl (kn rfl)) (w_as rfl rfl rfl rfl rfl .nil)))) ?_
  try refine e_fl ?_
  exact e_return rfl rfl (.tmp (kn rfl) (.nil)) (tP_eq (any_not srt p)) rfl
def sameS (x y : St) : Bool := ((decide (x.kind = y.kind) && decide (x.num = y.num)) && decide (x.to = y.to)) && decide (vcmp x.key y.key = 0)
set_option maxRecDepth 100000 in
set_option maxHeartbeats 1000000 in
theorem ssame_ef (x y : St) (hx : Short x.key) (hy : Short y.key) : EF Tryz.prog [] 46 [.many (sd x), .many (sd y)] (.part (tP (sameS x y))) := by
  refine ef_enter 31 Tryz.func46 rfl rfl rfl fun w D => ?_
  try refine e_fl ?_
  refine e_list ?_
  refine e_box 2 rfl rfl rfl rfl (kn rfl) rfl rfl rfl rfl ?_
  refine e_box 3 rfl rfl rfl rfl (kn rfl) rfl rfl rfl rfl ?_
  refine l_as ?_
  refine e_nil ?_
  try refine e_fl ?_
  refine e_plain (w_op rfl rfl rfl (s_faddr_box rfl (kn rfl) off_62_0) (w_op rfl rfl rfl (s_load1_box rfl (kn rfl) rfl rfl one_3) (w_op rfl rfl rfl (s_faddr_box rfl (kn rfl) off_62_0) (w_op rfl rfl rfl (s_load1_box rfl (kn rfl) rfl rfl one_3) (w_op rfl rfl rfl (s_bin rfl (kn rfl) (kn rfl) v_eql) (w_mv rfl rfl rfl rfl rfl (Walk.gd _ rfl rfl rfl (fun h => s_faddr_box rfl (kn rfl) off_62_1) (Walk.gd _ rfl rfl rfl (fun h => s_load1_box rfl (kn_opt rfl h) rfl rfl one_3) (Walk.gd _ rfl rfl rfl (fun h => s_faddr_box rfl (kn rfl) off_62_1) (Walk.gd _ rfl rfl rfl (fun h => s_load1_box rfl (kn_opt rfl h) rfl rfl one_3) (Walk.gd _ rfl rfl rfl (fun h => s_bin rfl (kn_opt rfl h) (kn_opt rfl h) v_eql) (w_op rfl rfl rfl (s_and rfl (kn rfl) (fun hb => kn_opt rfl hb)) (w_mv rfl rfl rfl rfl rfl (Walk.gd _ rfl rfl rfl (fun h => s_faddr_box rfl (kn rfl) off_62_2) (Walk.gd _ rfl rfl rfl (fun h => s_load1_box rfl (kn_opt rfl h) rfl rfl one_3) (Walk.gd _ rfl rfl rfl (fun h => s_faddr_box rfl (kn rfl) off_62_2) (Walk.gd _ rfl rfl rfl (fun h => s_load1_box rfl (kn_opt rfl h) rfl rfl one_3) (Walk.gd _ rfl rfl rfl (fun h => s_bin rfl (kn_opt rfl h) (kn_opt rfl h) v_eql) (w_op rfl rfl rfl (s_and rfl (kn rfl) (fun hb => kn_opt rfl hb)) (w_mv rfl rfl rfl rfl rfl (Walk.gd _ rfl rfl rfl (fun h => s_faddr_box rfl (kn rfl) off_62_3) (Walk.gd _ rfl rfl rfl (fun h => s_loadn_box (ds := [_, _, _, _, _, _, _]) 7 rfl (kn_opt rfl h) rfl rfl agg_27 sz_27 rfl) (Walk.gd _ rfl rfl rfl (fun h => s_faddr_box rfl (kn rfl) off_62_3) (Walk.gd _ rfl rfl rfl (fun h => s_loadn_box (ds := [_, _, _, _, _, _, _]) 7 rfl (kn_opt rfl h) rfl rfl agg_27 sz_27 rfl) (Walk.gd _ rfl rfl rfl (fun h => s_call rfl (by kernel_rfl) (vsame_ef x.key y.key hx hy) ⟨(kn_opt rfl h), ⟨(kn_opt rfl h), trivial⟩⟩) (w_op rfl rfl rfl (s_and rfl (kn rfl) (fun hb => kn_opt rfl hb)) (w_as rfl rfl rfl rfl rfl .nil))))))))))))))))))))))))))) ?_
  try refine e_fl ?_
  exact e_return rfl rfl (.tmp (kn rfl) (.nil)) (tP_eq rfl) rfl
def all2 {α : Type} (e : α → α → Bool) : List α → List α → Bool
  | [], [] => true
  | x :: a, y :: b => e x y && all2 e a b
  | _, _ => false
theorem all2_len {α : Type} {e : α → α → Bool} : ∀ {a b : List α}, a.length ≠ b.length → all2 e a b = false
  | [], [], h => absurd rfl h
  | [], _ :: _, _ => rfl
  | _ :: _, [], _ => rfl
  | x :: a, y :: b, h => by
    unfold all2
    rw [all2_len (a := a) (b := b) (fun e => h (by simp [e])), Bool.and_false]
theorem all2_step {α : Type} {e : α → α → Bool} {a b : List α} {k : Nat} {x y : α} {z : Bool} (hx : a[k]? = some x) (hy : b[k]? = some y) (h : z = all2 e (a.drop k) (b.drop k)) : z = (e x y && all2 e (a.drop (k + 1)) (b.drop (k + 1))) := by
  rw [h, drop_cons hx, drop_cons hy, all2]
theorem all2_end {α : Type} {e : α → α → Bool} {a b : List α} {k : Nat} {z : Bool} (ha : a.length ≤ k) (hb : b.length ≤ k) (h : z = all2 e (a.drop k) (b.drop k)) : z = true := by
  rw [h, List.drop_eq_nil_of_le ha, List.drop_eq_nil_of_le hb, all2]
set_option maxRecDepth 100000 in
set_option maxHeartbeats 1000000 in
theorem eqf_steps_ef (f : FuncId) (hfc : callable Tryz.prog f = true) (a b : List St) (ha : a.length ≤ 1000000) (hb : b.length ≤ 1000000) (e : St → St → Bool) (hc : ∀ x ∈ a, ∀ y ∈ b, EF Tryz.prog [] f [.many (sd x), .many (sd y)] (.part (tP (e x y)))) : EF Tryz.prog [] 45 [stD a, stD b, fP f] (.part (tP (all2 e a b))) := by
  refine ef_enter 32 Tryz.func45 rfl rfl rfl fun w D => ?_
  try refine e_fl ?_
  refine e_plain (w_as rfl rfl rfl rfl rfl .nil) ?_
  try refine e_fl ?_
  refine e_plain (w_mv rfl rfl rfl rfl rfl (w_op rfl rfl rfl (s_len rfl (kn rfl) sle_29) (w_mv rfl rfl rfl rfl rfl (w_op rfl rfl rfl (s_len rfl (kn rfl) sle_29) (w_op rfl rfl rfl (s_bin rfl (kn rfl) (kn rfl) v_neq) .nil))))) ?_
  try refine e_fl ?_
  refine e_cond rfl (fun h => ?_) (fun h => ?_)
  · have q : all2 e a b = false := all2_len (by have h2 : ¬ (a.length : Int) = (b.length : Int) := (by simpa using h); omega)
    try refine e_fl ?_
    refine e_plain (w_as rfl rfl rfl rfl rfl .nil) ?_
    try refine e_fl ?_
    exact e_return rfl rfl (.tmp (kn rfl) (.nil)) (tP_eq q.symm) rfl
  have hab : a.length = b.length := by
    have h2 : (a.length : Int) = (b.length : Int) := by simpa using h
    omega
  try refine e_fl ?_
  refine e_plain (w_mv rfl rfl rfl rfl rfl (w_op rfl rfl rfl (s_len rfl (kn rfl) sle_29) (w_mv rfl rfl rfl rfl rfl .nil))) ?_
  try refine e_fl ?_
  refine e_loop (ι := { k : Nat // k ≤ a.length ∧ all2 e a b = all2 e (a.drop k) (b.drop k) })
    (fun k => [(1, .part (stD b)), (2, .part (fP f)), (15, .part (stD a)), (16, .is (.int .i64 (a.length : Int))), (17, .is (.int .i64 (k.1 : Int)))])
    (fun _ => []) (fun _ => []) (fun k => a.length - k.1) ⟨0, by omega, rfl⟩
    (fun K => e_sub ⟨s_t, s_t, s_t, s_t, s_t, trivial⟩ trivial trivial) ?_
  rintro ⟨k, hk, hw⟩
  dsimp only at hk hw ⊢
  try refine e_fl ?_
  refine e_plain (w_op rfl rfl rfl (s_bin rfl (kn rfl) (kn rfl) v_lss) .nil) ?_
  try refine e_fl ?_
  refine e_cond rfl (fun h1 => ?_) (fun h1 => ?_)
  · have hlt : k < a.length := by have := of_decide_eq_true h1; omega
    obtain ⟨x, hx⟩ : ∃ x, a[k]? = some x := ⟨_, List.getElem?_eq_getElem hlt⟩
    obtain ⟨y, hy⟩ : ∃ y, b[k]? = some y := ⟨_, List.getElem?_eq_getElem (by omega)⟩
    have hst := all2_step hx hy hw
    try refine e_fl ?_
    refine e_list ?_
    refine l_mv ?_
    refine l_op (s_index rfl (kn rfl) (kn rfl) (by omega) hx stDats_len sle_29 esz_29 (stDats_sd x)) ?_
    refine l_op (s_loadn_ref rfl (kn rfl) agg_62 sz_62) ?_
    refine e_alloc 8 [.is (.int .i64 0), .is (.int .i64 0), .is (.int .i64 0), .is (.int .i64 0), .is (.int .u64 0), .is (.string ⟨#[]⟩), .is (.slice none 0 0), .is (.string ⟨#[]⟩), .is (.slice none 0 0), .is (.slice none 0 0)] rfl rfl rfl rfl zr_62 (fun w D M V => ⟨rfl, fun j x v h1 h2 => cfit_is _ h1 h2 rfl⟩) rfl rfl rfl rfl ?_
    refine l_as ?_
    refine e_storew rfl rfl rfl (kn rfl) rfl (kn rfl) rfl rfl sz_62 ?_
    refine e_nil ?_
    try refine e_fl ?_
    refine e_list ?_
    refine l_mv ?_
    refine l_mv ?_
    refine l_op (s_index rfl (kn rfl) (kn rfl) (by omega) hy stDats_len sle_29 esz_29 (stDats_sd y)) ?_
    refine l_op (s_loadn_ref rfl (kn rfl) agg_62 sz_62) ?_
    refine e_alloc 9 [.is (.int .i64 0), .is (.int .i64 0), .is (.int .i64 0), .is (.int .i64 0), .is (.int .u64 0), .is (.string ⟨#[]⟩), .is (.slice none 0 0), .is (.string ⟨#[]⟩), .is (.slice none 0 0), .is (.slice none 0 0)] rfl rfl rfl rfl zr_62 (fun w D M V => ⟨rfl, fun j x v h1 h2 => cfit_is _ h1 h2 rfl⟩) rfl rfl rfl rfl ?_
    refine e_storew rfl rfl rfl (kn rfl) rfl (kn rfl) rfl rfl sz_62 ?_
    refine e_nil ?_
    try refine e_fl ?_
    refine e_plain (w_mv rfl rfl rfl rfl rfl (w_op rfl rfl rfl (s_loadn_box (ds := [_, _, _, _, _, _, _, _, _, _]) 10 rfl (kn rfl) rfl rfl agg_62 sz_62 rfl) (w_op rfl rfl rfl (s_loadn_box (ds := [_, _, _, _, _, _, _, _, _, _]) 10 rfl (kn rfl) rfl rfl agg_62 sz_62 rfl) (w_op rfl rfl rfl (s_callf rfl hfc (kn rfl) (hc x (List.mem_of_getElem? hx) y (List.mem_of_getElem? hy)) ⟨kn rfl, kn rfl, trivial⟩) (w_op rfl rfl rfl (s_not rfl (kn rfl)) .nil))))) ?_
    try refine e_fl ?_
    refine e_cond rfl (fun h2 => ?_) (fun h2 => ?_)
    · have q : all2 e a b = false := by
        rw [hst, show e x y = false by simpa using h2]
        rfl
      try refine e_fl ?_
      refine e_plain (w_as rfl rfl rfl rfl rfl .nil) ?_
      try refine e_fl ?_
      exact e_return rfl rfl (.tmp (kn rfl) (.nil)) (tP_eq q.symm) rfl
    try refine e_fl ?_
    refine e_plain (w_op rfl rfl rfl (s_bin rfl (kn rfl) (kn rfl) (v_add64 (by first | omega | (dsimp only; omega) | omega))) (w_mv rfl rfl rfl rfl rfl .nil)) ?_
    try refine e_fl ?_
    refine e_again ⟨k + 1, by omega, ?_⟩ (by dsimp only; omega) (fun K => e_sub ⟨s_t, s_t, s_t, s_t, s_t, trivial⟩ trivial trivial)
    rw [hst, show e x y = true by simpa using h2]
    rfl
  have q : all2 e a b = true := all2_end (k := k) (by have := of_decide_eq_false h1; omega) (by have := of_decide_eq_false h1; omega) hw
  try refine e_fl ?_
  refine e_plain (w_as rfl rfl rfl rfl rfl .nil) ?_
  try refine e_fl ?_
  exact e_return rfl rfl (.tmp (kn rfl) (.nil)) (tP_eq q.symm) rfl
def psame (a b : List St) : Bool := all2 sameS a b
theorem sameS_self (x : St) : sameS x x = true := by simp [sameS, vcmp_self]
theorem psame_self : ∀ a : List St, psame a a = true
  | [] => rfl
  | x :: a => by
    show (sameS x x && psame a a) = true
    rw [sameS_self, psame_self a]
    rfl
set_option maxRecDepth 100000 in
theorem psame_ef (a b : List St) (ha : a.length ≤ 1000000) (hb : b.length ≤ 1000000) (ka : KeysShort a) (kb : KeysShort b) : EF Tryz.prog [] 21 [stD a, stD b] (.part (tP (psame a b))) := by
  refine ef_enter 8 Tryz.func21 rfl rfl rfl fun w D => ?_
  try refine e_fl ?_
  refine e_plain (w_as rfl rfl rfl rfl rfl .nil) ?_
  try refine e_fl ?_
  refine e_plain (w_mv rfl rfl rfl rfl rfl (w_mv rfl rfl rfl rfl rfl (w_op rfl rfl rfl (s_call rfl (by kernel_rfl) (eqf_steps_ef 46 (by kernel_rfl) a b ha hb sameS (fun x hx y hy => ssame_ef x y (ka x hx) (kb y hy))) ⟨(kn rfl), ⟨(kn rfl), ⟨(kn rfl), trivial⟩⟩⟩) (w_as rfl rfl rfl rfl rfl .nil)))) ?_
  try refine e_fl ?_
  exact e_return rfl rfl (.tmp (kn rfl) (.nil)) (tP_eq rfl) rfl
def plong (p : List St) : Bool := decide (20 < p.length) || p.any fun s => vbig s.key 10
def KeysFine (p : List St) : Prop := ∀ s ∈ p, s.key.Fine
theorem any_none {α : Type} {p : α → Bool} {l : List α} {k : Nat} (hk : l.length ≤ k) (h : l.any p = (l.drop k).any p) : l.any p = false := by
  rw [h, List.drop_eq_nil_of_le hk]
  rfl
theorem any_step {α : Type} {p : α → Bool} {l : List α} {k : Nat} {x : α} (hx : l[k]? = some x) (h : l.any p = (l.drop k).any p) : l.any p = (p x || (l.drop (k + 1)).any p) := by
  rw [h, drop_cons hx, List.any_cons]
set_option maxRecDepth 100000 in
theorem plong_ef (p : List St) (kp : KeysFine p) : EF Tryz.prog [] 8 [stD p] (.part (tP (plong p))) := by
  refine ef_enter 18 Tryz.func8 rfl rfl rfl fun w D => ?_
  try refine e_fl ?_
  refine e_plain (w_as rfl rfl rfl rfl rfl .nil) ?_
  try refine e_fl ?_
  refine e_plain (w_mv rfl rfl rfl rfl rfl (w_op rfl rfl rfl (s_len rfl (kn rfl) sle_29) (w_op rfl rfl rfl (s_bin rfl (kn rfl) (kn rfl) v_gtr) .nil))) ?_
  try refine e_fl ?_
  refine e_cond rfl (fun h => ?_) (fun h => ?_)
  · have e : plong p = true := by
      have : decide (20 < p.length) = true := decide_eq_true (by have := of_decide_eq_true h; omega)
      unfold plong
      rw [this]
      rfl
    try refine e_fl ?_
    refine e_plain (w_as rfl rfl rfl rfl rfl .nil) ?_
    try refine e_fl ?_
    exact e_return rfl rfl (.tmp (kn rfl) (.nil)) (tP_eq e.symm) rfl
  have e0 : plong p = p.any fun s => vbig s.key 10 := by
    have : decide (20 < p.length) = false := decide_eq_false (by have := of_decide_eq_false h; omega)
    unfold plong
    rw [this]
    rfl
  have h20 : p.length ≤ 20 := by have := of_decide_eq_false h; omega
  rw [e0]
  try refine e_fl ?_
  refine e_plain (w_mv rfl rfl rfl rfl rfl (w_op rfl rfl rfl (s_len rfl (kn rfl) sle_29) (w_mv rfl rfl rfl rfl rfl .nil))) ?_
  try refine e_fl ?_
  refine e_loop (ι := { k : Nat // k ≤ p.length ∧ (p.any fun s => vbig s.key 10) = (p.drop k).any fun s => vbig s.key 10 })
    (fun k => [(8, .part (stD p)), (9, .is (.int .i64 (p.length : Int))), (10, .is (.int .i64 (k.1 : Int)))])
    (fun _ => []) (fun _ => []) (fun k => p.length - k.1) ⟨0, by omega, rfl⟩
    (fun K => e_sub ⟨s_t, s_t, s_t, trivial⟩ trivial trivial) ?_
  rintro ⟨k, hk, hw⟩
  dsimp only at hk hw ⊢
  try refine e_fl ?_
  refine e_plain (w_op rfl rfl rfl (s_bin rfl (kn rfl) (kn rfl) v_lss) .nil) ?_
  try refine e_fl ?_
  refine e_cond rfl (fun h1 => ?_) (fun h1 => ?_)
  · have hlt : k < p.length := by have := of_decide_eq_true h1; omega
    obtain ⟨x, hx⟩ : ∃ x, p[k]? = some x := ⟨_, List.getElem?_eq_getElem hlt⟩
    have hst := any_step hx hw
    try refine e_fl ?_
    refine e_list ?_
    refine l_op (s_index rfl (kn rfl) (kn rfl) (by omega) hx stDats_len sle_29 esz_29 (stDats_sd x)) ?_
    refine l_op (s_loadn_ref rfl (kn rfl) agg_62 sz_62) ?_
    refine e_alloc 4 [.is (.int .i64 0), .is (.int .i64 0), .is (.int .i64 0), .is (.int .i64 0), .is (.int .u64 0), .is (.string ⟨#[]⟩), .is (.slice none 0 0), .is (.string ⟨#[]⟩), .is (.slice none 0 0), .is (.slice none 0 0)] rfl rfl rfl rfl zr_62 (fun w D M V => ⟨rfl, fun j x v h1 h2 => cfit_is _ h1 h2 rfl⟩) rfl rfl rfl rfl ?_
    refine e_storew rfl rfl rfl (kn rfl) rfl (kn rfl) rfl rfl sz_62 ?_
    refine e_nil ?_
    try refine e_fl ?_
    refine e_plain (w_op rfl rfl rfl (s_faddr_box rfl (kn rfl) off_62_3) (w_op rfl rfl rfl (s_loadn_box (ds := [_, _, _, _, _, _, _]) 7 rfl (kn rfl) rfl rfl agg_27 sz_27 rfl) (w_op rfl rfl rfl (s_call rfl (by kernel_rfl) (big_ef x.key 10 (kp x (List.mem_of_getElem? hx)) (by decide) (by decide)) ⟨(kn rfl), ⟨(kn rfl), trivial⟩⟩) .nil))) ?_
    try refine e_fl ?_
    refine e_cond rfl (fun h2 => ?_) (fun h2 => ?_)
    · try refine e_fl ?_
      refine e_plain (w_as rfl rfl rfl rfl rfl .nil) ?_
      try refine e_fl ?_
      exact e_return rfl rfl (.tmp (kn rfl) (.nil)) (tP_eq (by rw [hst, h2]; rfl)) rfl
    try refine e_fl ?_
    refine e_plain (w_op rfl rfl rfl (s_bin rfl (kn rfl) (kn rfl) (v_add64 (by first | omega | (dsimp only; omega) | omega))) (w_mv rfl rfl rfl rfl rfl .nil)) ?_
    try refine e_fl ?_
    refine e_again ⟨k + 1, by omega, ?_⟩ (by dsimp only; omega) (fun K => e_sub ⟨s_t, s_t, s_t, trivial⟩ trivial trivial)
    rw [hst, h2]
    rfl
  try refine e_fl ?_
  refine e_plain (w_as rfl rfl rfl rfl rfl .nil) ?_
  try refine e_fl ?_
  exact e_return rfl rfl (.tmp (kn rfl) (.nil)) (tP_eq (any_none (by have := of_decide_eq_false h1; omega) hw).symm) rfl
end Go.Proofs.YtagoikglbifhmaaGreatDoor
namespace Go.Proofs.YtagoikglbifhmaaGreatDoor
open Go.RowKit
def Stab (Q : World → Prop) : Prop := ∀ w w', Below w.heap.size w w' → Q w → Q w'
def EFqx (P : Program) (Q : World → Prop) (gls : List (Nat × List Value)) (f : FuncId) (ps : List Part) (Y : IV → Prop) : Prop :=
  ∀ (w : World) (D : Nat → Prop) (vs : List Value), (∀ g, D g → g < w.heap.size) → GlOK gls w → Q w → PsFit w D ps vs → Calls P f vs.toArray w (Gives w D Y)
abbrev EFq (P : Program) (Q : World → Prop) (gls : List (Nat × List Value)) (f : FuncId) (ps : List Part) (y : IV) : Prop := EFqx P Q gls f ps (· = y)
theorem EFx.q {P : Program} {Q : World → Prop} {gls gls' : List (Nat × List Value)} {f : FuncId} {ps : List Part} {Y : IV → Prop} (h : EFx P gls f ps Y) (hs : ∀ x, x ∈ gls → x ∈ gls') : EFqx P Q gls' f ps Y := fun w D vs hD hG _ hp => h w D vs hD (fun g cs hg => hG g cs (hs _ hg)) hp
theorem EF.up {P : Program} {gls : List (Nat × List Value)} {f : FuncId} {ps : List Part} {y : IV} (h : EF P [] f ps y) : EF P gls f ps y := EFx.more h fun x hx => (by cases hx)
theorem ef_cell_q {P : Program} {Q : World → Prop} {gls : List (Nat × List Value)} {f : FuncId} (vs : List Value) (r : Value)
    (h : ∀ w, GlOK gls w → Q w → Calls P f vs.toArray w fun e w' => e = .returned r ∧ Below w.heap.size w w') : EFq P Q gls f (vs.map fun v => .one (.cell v)) (.is r) := fun w D us hD hG hQ hp => by
  obtain rfl := psfit_cells hp
  exact (h w hG hQ).mono fun e w' ⟨he, hb⟩ => ⟨r, _, he, rfl, hb, fun M V => .cell r⟩
section
variable {P : Program} {cx : Cx} {T : TL} {B : BL} {R : RL} {o : Oper} {Q : World → Prop}
theorem efq_w {gls : List (Nat × List Value)} {f : FuncId} {ps : List Part} {y : IV} (hst : Stab Q) (hq : Q cx.w0) (hf : EFq P Q gls f ps y) (hb : ∀ g, ¬ cx.bor g) (hs : ∀ x, x ∈ gls → x ∈ cx.gl) : EFw P cx f ps y := fun w hbx D vs hD hG hp =>
  hf w D vs hD (fun g cs hg => hG g cs (hs _ hg)) (hst _ _ ⟨hbx.os, hbx.tape, hbx.output, hbx.size, fun k hk => hbx.block k hk (hb k)⟩ hq) hp
theorem efq_enter {gls : List (Nat × List Value)} {f : FuncId} {fn : Func} {c : Code} {ps : List Part} {Y : IV → Prop} (n : Nat) (hf : P.funcs[f]? = some fn) (hb : fn.body = some c) (hn : fn.ntmps = n) (hle : Nat.ble ps.length n = true)
    (h : ∀ (w : World) (D : Nat → Prop), Q w → E ⟨w, D, fun _ => False, n, gls, [], fun _ => 0⟩ (pslots 0 ps) [] [] (c.wp P (bodyPost P fn (Gives w D Y)))) : EFqx P Q gls f ps Y := fun w D vs hD hG hQ hp => by
  refine calls_of_wp hf hb ?_
  have hl := hp.length
  have hle' := Nat.le_of_ble_eq_true hle
  refine h w D hQ (fun _ => 0) (fun _ => undef) _ w ⟨by simp [hn]; omega, rfl, ⟨Bex.refl _ _, fun g hg => ⟨hD g hg, fun h => h⟩, fun _ h => h.elim, fun g cs hg => ⟨⟨(hG g cs hg).1, fun h => h⟩, (hG g cs hg).2⟩, fun b x hx => (by cases hx), fun r x hx => (by cases hx), fun r x g hx => (by cases hx), fun b hb => (by cases hb), fun b c x y hx => (by cases hx), fun b r x y g hx => (by cases hx), fun r q x y g hx => (by cases hx)⟩, fun t x hx => ?_⟩
  obtain ⟨p, h1, rfl, _⟩ := pslots_get hx
  obtain ⟨v, h2, h3⟩ := hp.get h1
  rw [Nat.sub_zero] at h2
  have hv : (vs.toArray ++ Array.replicate (fn.ntmps - vs.toArray.size) undef).getD t undef = v := by
    have hlt : t < vs.length := by
      rcases Nat.lt_or_ge t vs.length with h | h
      · exact h
      · rw [List.getElem?_eq_none h] at h2; cases h2
    have h4 : vs[t] = v := by
      rw [List.getElem?_eq_getElem hlt] at h2
      exact Option.some.inj h2
    simp [Array.getElem?_append, hlt, h4]
  show VR _ _ _ _ _ ((vs.toArray ++ Array.replicate (fn.ntmps - vs.toArray.size) undef).getD t undef)
  rw [hv]
  exact PFit.stay (D := D) (Keeps.refl _ _) (fun g hg => Or.inl hg) h3
end
end Go.Proofs.YtagoikglbifhmaaGreatDoor
