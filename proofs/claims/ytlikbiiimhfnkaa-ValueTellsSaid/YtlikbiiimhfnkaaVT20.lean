/- Part 20 of what the last text of this claim is proved by: walks over the program, and the math behind them. Conditions: as each theorem says. -/
import Derived.Test.YtlikbiiimhfnkaaVT19
import Derived.Test.YtlikbiiimhfnkaaProg
namespace Go.Proofs.Ytlikbiiimhfnkaa
open Go.RowKit
theorem zeroCells_size (z : Array Value) (n : Nat) : (Builtin.zeroCells z n).size = n * z.size := by simp [Builtin.zeroCells]
theorem fdats_one (l : List (Int × Vl)) : (l.flatMap fieldDats).all Dat.isOne = true := by
  induction l with
  | nil => rfl
  | cons v l ih => rw [List.flatMap_cons, List.all_append, ih, fieldDats_vd]; rfl
theorem pdats_one (l : List (Vl × Vl)) : (l.flatMap pairDats).all Dat.isOne = true := by
  induction l with
  | nil => rfl
  | cons v l ih => rw [List.flatMap_cons, List.all_append, ih, pairDats_vd]; rfl
theorem flatten_take {α : Type} {ps : List (List α)} {k : Nat} {p : List α} (h : ps[k]? = some p) : (ps.take (k + 1)).flatten = (ps.take k).flatten ++ p := by
  rw [List.take_add_one, h, Option.toList_some, List.flatten_append]
  simp
theorem flatten_le {α : Type} (ps : List (List α)) (k : Nat) : (ps.take k).flatten.length ≤ ps.flatten.length := by
  have h : ps.flatten = (ps.take k).flatten ++ (ps.drop k).flatten := by rw [← List.flatten_append, List.take_append_drop]
  rw [h]; simp
def gat {α : Type} [Inhabited α] (c : α → Int) (l : List α) : α := if gfound c l then l.getD (gidx c l) default else default
theorem info_fields : (Try.prog.info? 58).map (fun i => (i.zero.map (·.cells.size), i.size, i.bytes)) = some (some 8, 8, 128) := by kernel_rfl
set_option maxRecDepth 100000 in
set_option maxHeartbeats 400000 in
theorem grow_fields_any (w : World) (n : Nat) (hn : n ≤ 100000000) :
    Calls Try.prog 73 #[.slice none 0 0, .int .i64 (n : Int)] w fun e w' => ∃ v, e = .returned v ∧ Below w.heap.size w w' ∧ w'.ownsRow w.heap.size 58 8 v 0 [] := by
  obtain ⟨i0, hi, hz0, hz1, hz2⟩ : ∃ i, Try.prog.info? 58 = some i ∧ i.zero.map (·.cells.size) = some 8 ∧ i.size = 8 ∧ i.bytes = 128 := by
    obtain ⟨i, h1, h2⟩ := Option.map_eq_some_iff.1 info_fields
    simp only [Prod.mk.injEq] at h2
    exact ⟨i, h1, h2.1, h2.2.1, h2.2.2⟩
  obtain ⟨z, hz, hzs⟩ := Option.map_eq_some_iff.1 hz0
  obtain ⟨cs, rfl⟩ : ∃ cs, z = .agg cs := by
    cases z <;> first | exact ⟨_, rfl⟩ | exact absurd hzs (show ¬ (1 = 8) by decide)
  by_cases h0 : 0 < n
  · have hr := Lib.run_append_nil_zeros (P := Try.prog) w 23 3 23 58 i0 (.agg cs) .i64 .i64 Try.underlying23 Try.underlying3 hi hz n h0 (by omega) (by omega) (by rw [hz2]; omega)
    have HR := Lib.hid hr
    clear hr
    go_enter Try.func73, Try.ntmps73
    go_wp2_with (at_builtin; refine Lib.wpList_append_run _ rfl _ _ _ _ rfl _ _ rfl rfl _ _ HR.out ?_)
    go_ret
    have hge := grownCap_ge w n 0 58
    refine ⟨_, rfl, ((Below.refl _ _).drew).alloc (Nat.le_refl _) _, ⟨by simp, .inr ⟨w.heap.size, grownCap w n 0 58, _, rfl, Nat.le_refl _, heap_alloc_new w.drew _, Nat.zero_le _, grownCap_le_maxLen w n 0 _ (by unfold maxLen; omega), ?_, by simp⟩⟩⟩
    rw [Array.size_append, zeroCells_size, zeroCells_size, ← Nat.add_mul]
    exact congr (congrArg HMul.hMul (by omega)) hzs
  · obtain rfl : n = 0 := by omega
    go_enter Try.func73, Try.ntmps73
    go_wp2
    go_ret
    exact ⟨_, rfl, Below.refl _ _, World.ownsRow_nil _ _ _ _⟩
theorem grow_fields_row (n : Nat) (hn : n ≤ 100000000) (w : World) (D : Nat → Prop) (vs : List Value) (h : PsFit w D [.one (.cell (.slice none 0 0)), iP (n : Int)] vs) : Calls Try.prog 73 vs.toArray w fun e w' => ∃ v, e = .returned v ∧ Below w.heap.size w w' ∧ w'.ownsRow w.heap.size 58 8 v 0 [] := by
  match vs, h with
  | [a, b], ⟨h1, h2, _⟩ =>
    obtain rfl := Lies.cell_eq h1
    obtain rfl := Lies.cell_eq h2
    exact grow_fields_any w n hn
set_option maxRecDepth 100000 in
set_option maxHeartbeats 1000000 in
theorem concat_fields_ef (ps : List (List (Int × Vl))) (hp : ps.length ≤ 1000000) (hf : ps.flatten.length ≤ 10000000) :
    EF Try.prog [] 69 [.one (.row 1 ps.length (ps.flatMap fun p => [.row 8 p.length (p.flatMap fieldDats)]))] (.part (.one (.row 8 ps.flatten.length (ps.flatten.flatMap fieldDats)))) := by
  refine ef_enter 36 Try.func69 rfl rfl rfl fun w D => ?_
  try refine e_fl ?_
  refine e_plain (w_as rfl rfl rfl rfl rfl .nil) ?_
  try refine e_fl ?_
  refine e_plain (w_as rfl rfl rfl rfl rfl .nil) ?_
  try refine e_fl ?_
  refine e_plain (w_mv rfl rfl rfl rfl rfl (w_op rfl rfl rfl (s_len rfl (kn rfl) sle_99) (w_mv rfl rfl rfl rfl rfl .nil))) ?_
  try refine e_fl ?_
  refine e_loop (ι := { k : Nat // k ≤ ps.length })
    (fun k => [(0, .part (.one (.row 1 ps.length (ps.flatMap fun p => [.row 8 p.length (p.flatMap fieldDats)])))), (3, .is (.int .i64 ((ps.take k.1).flatten.length : Int))), (9, .part (.one (.row 1 ps.length (ps.flatMap fun p => [.row 8 p.length (p.flatMap fieldDats)])))), (10, .is (.int .i64 (ps.length : Int))), (11, .is (.int .i64 (k.1 : Int)))])
    (fun _ => []) (fun _ => []) (fun k => ps.length - k.1) ⟨0, by omega⟩
    (fun K => e_sub ⟨s_t, s_t, s_t, s_t, s_t, trivial⟩ trivial trivial) ?_
  rintro ⟨k, hk⟩
  dsimp only at hk ⊢
  try refine e_fl ?_
  refine e_plain (w_op rfl rfl rfl (s_bin rfl (kn rfl) (kn rfl) v_lss) .nil) ?_
  try refine e_fl ?_
  refine e_cond rfl (fun h => ?_) (fun h => ?_)
  · have hlt : k < ps.length := by have := of_decide_eq_true h; omega
    obtain ⟨p, hq⟩ : ∃ p, ps[k]? = some p := ⟨_, List.getElem?_eq_getElem hlt⟩
    have htk : (ps.take (k + 1)).flatten.length = (ps.take k).flatten.length + p.length := by rw [flatten_take hq, List.length_append]
    have hle := flatten_le ps (k + 1)
    try refine e_fl ?_
    refine e_plain (w_op rfl rfl rfl (s_index rfl (kn rfl) (kn rfl) (by omega) hq (fun _ => rfl) sle_99 esz_99 rfl) (w_op rfl rfl rfl (s_load1_ref rfl (kn rfl) one_23) (w_as rfl rfl rfl rfl rfl .nil))) ?_
    try refine e_fl ?_
    refine e_plain (w_mv rfl rfl rfl rfl rfl (w_mv rfl rfl rfl rfl rfl (w_op rfl rfl rfl (s_len rfl (kn rfl) sle_23) (w_op rfl rfl rfl (s_bin rfl (kn rfl) (kn rfl) (v_add64 (by first | omega | (dsimp only; omega) | omega))) (w_as rfl rfl rfl rfl rfl .nil))))) ?_
    try refine e_fl ?_
    refine e_plain (w_mv rfl rfl rfl rfl rfl (w_op rfl rfl rfl (s_bin rfl (kn rfl) (kn rfl) v_lss) .nil)) ?_
    try refine e_fl ?_
    refine e_cond rfl (fun h1 => ?_) (fun h1 => ?_)
    · exfalso
      have := of_decide_eq_true h1
      omega
    try refine e_fl ?_
    refine e_plain (w_op rfl rfl rfl (s_bin rfl (kn rfl) (kn rfl) (v_add64 (by first | omega | (dsimp only; omega) | omega))) (w_mv rfl rfl rfl rfl rfl .nil)) ?_
    try refine e_fl ?_
    refine e_again ⟨k + 1, by omega⟩ (by dsimp only; omega) (fun K => e_sub ⟨s_t, ⟨_, rfl, kI (by dsimp only; omega)⟩, s_t, s_t, s_t, trivial⟩ trivial trivial)
  obtain rfl : k = ps.length := by have := of_decide_eq_false h; omega
  rw [List.take_length]
  clear h
  try refine e_fl ?_
  refine e_list ?_
  refine l_mv ?_
  refine e_call_row (ps := [.one (.cell (.slice none 0 0)), iP (ps.flatten.length : Int)]) 100 rfl rfl rfl rfl (by kernel_rfl) ⟨kn rfl, kn rfl, trivial⟩ (grow_fields_row ps.flatten.length (by omega)) rfl rfl ?_
  refine l_as ?_
  refine e_nil ?_
  try refine e_fl ?_
  refine e_plain (w_mv rfl rfl rfl rfl rfl (w_op rfl rfl rfl (s_len rfl (kn rfl) sle_99) (w_mv rfl rfl rfl rfl rfl .nil))) ?_
  try refine e_fl ?_
  refine e_loop (ι := { k : Nat // k ≤ ps.length })
    (fun k => [(6, .own 100), (25, .part (.one (.row 1 ps.length (ps.flatMap fun p => [.row 8 p.length (p.flatMap fieldDats)])))), (26, .is (.int .i64 (ps.length : Int))), (27, .is (.int .i64 (k.1 : Int)))])
    (fun _ => []) (fun k => [(100, ⟨58, 8, (ps.take k.1).flatten.length, (ps.take k.1).flatten.flatMap fieldDats, false⟩)]) (fun k => ps.length - k.1) ⟨0, by omega⟩
    (fun K => e_sub ⟨s_t, s_t, s_t, s_t, trivial⟩ trivial ⟨rfl, trivial⟩) ?_
  rintro ⟨k, hk⟩
  dsimp only at hk ⊢
  try refine e_fl ?_
  refine e_plain (w_op rfl rfl rfl (s_bin rfl (kn rfl) (kn rfl) v_lss) .nil) ?_
  try refine e_fl ?_
  refine e_cond rfl (fun h => ?_) (fun h => ?_)
  · have hlt : k < ps.length := by have := of_decide_eq_true h; omega
    obtain ⟨p, hq⟩ : ∃ p, ps[k]? = some p := ⟨_, List.getElem?_eq_getElem hlt⟩
    have htk := flatten_take hq
    have hle := flatten_le ps (k + 1)
    have hlen : (ps.take (k + 1)).flatten.length = (ps.take k).flatten.length + p.length := by rw [htk, List.length_append]
    try refine e_fl ?_
    refine e_plain (w_op rfl rfl rfl (s_index rfl (kn rfl) (kn rfl) (by omega) hq (fun _ => rfl) sle_99 esz_99 rfl) (w_op rfl rfl rfl (s_load1_ref rfl (kn rfl) one_23) (w_as rfl rfl rfl rfl rfl .nil))) ?_
    try refine e_fl ?_
    refine e_list ?_
    refine l_mv ?_
    refine l_mv ?_
    refine e_append rfl rfl rfl rfl (kn rfl) rfl (kn rfl) sl_23 ap_23 rfl (fdats_one p) (by first | omega | (dsimp only; omega) | omega) (by first | omega | (dsimp only; omega) | omega) ?_
    refine l_as ?_
    refine e_nil ?_
    try refine e_fl ?_
    refine e_plain (w_op rfl rfl rfl (s_bin rfl (kn rfl) (kn rfl) (v_add64 (by first | omega | (dsimp only; omega) | omega))) (w_mv rfl rfl rfl rfl rfl .nil)) ?_
    try refine e_fl ?_
    refine e_again ⟨k + 1, by omega⟩ (by dsimp only; omega) (fun K => e_sub ⟨s_t, s_t, s_t, s_t, trivial⟩ trivial ⟨rowEq rfl hlen.symm (by rw [htk, List.flatMap_append]), trivial⟩)
  obtain rfl : k = ps.length := by have := of_decide_eq_false h; omega
  try refine e_fl ?_
  refine e_plain (w_mv rfl rfl rfl rfl rfl (w_as rfl rfl rfl rfl rfl .nil)) ?_
  try refine e_fl ?_
  refine e_freeze_slot 2 100 rfl rfl rfl ?_
  exact e_return rfl rfl (.tmp (kn rfl) (.nil)) (Imp.of_eq (by rw [List.take_length]; rfl)) rfl
set_option maxRecDepth 100000 in
set_option maxHeartbeats 1000000 in
theorem with_fields_ef (f : FuncId) (hfc : callable Try.prog f = true) (l : List (Int × Vl)) (hl : l.length ≤ 1000000) (x : Int × Vl) (st : Bool) (c : Int × Vl → Int) (hmono : ∀ (i j : Nat) x y, i ≤ j → l[i]? = some x → l[j]? = some y → c y < 0 → c x < 0) (hc : ∀ y ∈ l, EF Try.prog [] f [.many (fd y), .many (fd x)] (.part (iP (c y)))) :
    EF Try.prog [] 56 [.one (.row 8 l.length (l.flatMap fieldDats)), .many (fd x), tP st, fP f] (.part (.one (.row 8 (gwith c l x st).length ((gwith c l x st).flatMap fieldDats)))) := by
  have hle := gidx_le c l
  have hone : [x].flatMap fieldDats = fd x := by simp [fieldDats_vd]
  refine ef_enter 41 Try.func56 rfl rfl rfl fun w D => ?_
  try refine e_fl ?_
  refine e_list ?_
  refine e_box 5 rfl rfl rfl rfl (kn rfl) rfl rfl rfl rfl ?_
  refine l_as ?_
  refine e_nil ?_
  try refine e_fl ?_
  refine e_plain (w_mv rfl rfl rfl rfl rfl (w_op rfl rfl rfl (s_loadn_box (ds := [_, _, _, _, _, _, _, _]) 8 rfl (kn rfl) rfl rfl agg_58 sz_58 rfl) (w_mv rfl rfl rfl rfl rfl (w_op rfl rfl rfl (s_call rfl (by kernel_rfl) (bs_fields_ef f hfc l hl x c hmono hc) ⟨(kn rfl), ⟨(kn rfl), ⟨(kn rfl), trivial⟩⟩⟩) (w_mv rfl rfl rfl rfl rfl (w_op rfl rfl rfl (s_extract rfl (kn rfl) rfl) (w_op rfl rfl rfl (s_extract rfl (kn rfl) rfl) (w_as rfl rfl rfl rfl rfl (w_as rfl rfl rfl rfl rfl .nil))))))))) ?_
  try refine e_fl ?_
  refine e_draw mixed (by kernel_rfl) (w_mv rfl rfl rfl rfl rfl (w_mv rfl rfl rfl rfl rfl (w_op rfl rfl rfl (s_rslice_to rfl (kn rfl) (kn rfl) (by omega) fieldDats_len sle_23 esz_23) (w_mv rfl rfl rfl rfl rfl (w_mv rfl rfl rfl rfl rfl (w_op rfl rfl rfl (s_rslice_from rfl (kn rfl) (kn rfl) (by omega) fieldDats_len sle_23 esz_23) (w_as rfl rfl rfl rfl rfl (w_as rfl rfl rfl rfl rfl .nil)))))))) ?_
  try refine e_fl ?_
  refine e_plain (w_mv rfl rfl rfl rfl rfl .nil) ?_
  try refine e_fl ?_
  refine e_cond rfl (fun hfo => ?_) (fun hfo => ?_)
  · have hlt : gidx c l < l.length := by
      have h1 := hfo
      unfold gfound at h1
      simp only [Bool.and_eq_true, decide_eq_true_eq] at h1
      exact h1.1
    have hdl : (l.drop ((gidx c l : Nat) : Int).toNat).length = l.length - gidx c l := by rw [Int.toNat_natCast]; exact List.length_drop
    try refine e_fl ?_
    refine e_plain (w_mv rfl rfl rfl rfl rfl (w_op rfl rfl rfl (s_rslice_from rfl (kn rfl) (kn rfl) (by omega) fieldDats_len sle_23 esz_23) (w_as rfl rfl rfl rfl rfl .nil))) ?_
    try refine e_fl ?_
    try refine e_fl ?_
    refine e_plain (w_mv rfl rfl rfl rfl rfl (w_op rfl rfl rfl (s_not rfl (kn rfl)) .nil)) ?_
    try refine e_fl ?_
    refine e_cond rfl (fun q => ?_) (fun q => ?_)
    · obtain rfl : st = false := by simpa using q
      try refine e_fl ?_
      refine e_plain (w_mv rfl rfl rfl rfl rfl (w_mv rfl rfl rfl rfl rfl (w_op rfl rfl rfl (s_buildSlice (ds := [_, _]) [(0, _), (1, _)] rfl ⟨rfl, (kn rfl), ⟨rfl, (kn rfl), trivial⟩⟩ rfl sl_99 sz_23 zr_23 (fun w D => .cons (.cell _) (.cons (.cell _) (.nil _ _))) rfl rfl rfl rfl rfl) (w_op rfl rfl rfl (s_call rfl (by kernel_rfl) (concat_fields_ef [l.take (gidx c l), (l.drop (gidx c l)).drop 1] (by simp) (by simp; omega)) ⟨(kn rfl), trivial⟩) (w_as rfl rfl rfl rfl rfl .nil))))) ?_
      try refine e_fl ?_
      exact e_return rfl rfl (.tmp (kn rfl) (.nil)) (Imp.of_eq (by rw [show gwith c l x false = [l.take (gidx c l), (l.drop (gidx c l)).drop 1].flatten by simp [gwith, hfo]]; rfl)) rfl
    obtain rfl : st = true := by simpa using q
    try refine e_fl ?_
    refine e_list ?_
    refine l_mv ?_
    refine l_op (s_loadn_box (ds := [_, _, _, _, _, _, _, _]) 8 rfl (kn rfl) rfl rfl agg_58 sz_58 rfl) ?_
    refine l_op (s_buildSlice (ds := [_, _, _, _, _, _, _, _]) [(0, _)] rfl ⟨rfl, (kn rfl), trivial⟩ rfl sl_23 sz_58 zr_58 (fun w D => .cons (.cell _) (.cons (.cell _) (.cons (.cell _) (.cons (.cell _) (.cons (.cell _) (.cons (.cell _) (.cons (.cell _) (.cons (.cell _) (.nil _ _))))))))) rfl rfl rfl rfl rfl) ?_
    refine e_slot (y := .part (.one (.row 8 [x].length ([x].flatMap fieldDats)))) 37 rfl (Imp.of_eq (by rw [hone]; rfl)) ?_
    refine l_mv ?_
    refine l_op (s_buildSlice (ds := [_, _, _]) [(0, _), (1, _), (2, _)] rfl ⟨rfl, (kn rfl), ⟨rfl, (kn rfl), ⟨rfl, (kn rfl), trivial⟩⟩⟩ rfl sl_99 sz_23 zr_23 (fun w D => .cons (.cell _) (.cons (.cell _) (.cons (.cell _) (.nil _ _)))) rfl rfl rfl rfl rfl) ?_
    refine l_op (s_call rfl (by kernel_rfl) (concat_fields_ef [l.take (gidx c l), [x], (l.drop (gidx c l)).drop 1] (by simp) (by simp; omega)) ⟨(kn rfl), trivial⟩) ?_
    refine l_as ?_
    refine e_nil ?_
    try refine e_fl ?_
    exact e_return rfl rfl (.tmp (kn rfl) (.nil)) (Imp.of_eq (by rw [show gwith c l x true = [l.take (gidx c l), [x], (l.drop (gidx c l)).drop 1].flatten by simp [gwith, hfo]]; rfl)) rfl
  try refine e_fl ?_
  refine e_plain (w_mv rfl rfl rfl rfl rfl (w_op rfl rfl rfl (s_not rfl (kn rfl)) .nil)) ?_
  try refine e_fl ?_
  refine e_cond rfl (fun q => ?_) (fun q => ?_)
  · obtain rfl : st = false := by simpa using q
    try refine e_fl ?_
    refine e_plain (w_mv rfl rfl rfl rfl rfl (w_mv rfl rfl rfl rfl rfl (w_op rfl rfl rfl (s_buildSlice (ds := [_, _]) [(0, _), (1, _)] rfl ⟨rfl, (kn rfl), ⟨rfl, (kn rfl), trivial⟩⟩ rfl sl_99 sz_23 zr_23 (fun w D => .cons (.cell _) (.cons (.cell _) (.nil _ _))) rfl rfl rfl rfl rfl) (w_op rfl rfl rfl (s_call rfl (by kernel_rfl) (concat_fields_ef [l.take (gidx c l), l.drop (gidx c l)] (by simp) (by simp; omega)) ⟨(kn rfl), trivial⟩) (w_as rfl rfl rfl rfl rfl .nil))))) ?_
    try refine e_fl ?_
    exact e_return rfl rfl (.tmp (kn rfl) (.nil)) (Imp.of_eq (by rw [show gwith c l x false = [l.take (gidx c l), l.drop (gidx c l)].flatten by simp [gwith, hfo]]; rfl)) rfl
  obtain rfl : st = true := by simpa using q
  try refine e_fl ?_
  refine e_list ?_
  refine l_mv ?_
  refine l_op (s_loadn_box (ds := [_, _, _, _, _, _, _, _]) 8 rfl (kn rfl) rfl rfl agg_58 sz_58 rfl) ?_
  refine l_op (s_buildSlice (ds := [_, _, _, _, _, _, _, _]) [(0, _)] rfl ⟨rfl, (kn rfl), trivial⟩ rfl sl_23 sz_58 zr_58 (fun w D => .cons (.cell _) (.cons (.cell _) (.cons (.cell _) (.cons (.cell _) (.cons (.cell _) (.cons (.cell _) (.cons (.cell _) (.cons (.cell _) (.nil _ _))))))))) rfl rfl rfl rfl rfl) ?_
  refine e_slot (y := .part (.one (.row 8 [x].length ([x].flatMap fieldDats)))) 37 rfl (Imp.of_eq (by rw [hone]; rfl)) ?_
  refine l_mv ?_
  refine l_op (s_buildSlice (ds := [_, _, _]) [(0, _), (1, _), (2, _)] rfl ⟨rfl, (kn rfl), ⟨rfl, (kn rfl), ⟨rfl, (kn rfl), trivial⟩⟩⟩ rfl sl_99 sz_23 zr_23 (fun w D => .cons (.cell _) (.cons (.cell _) (.cons (.cell _) (.nil _ _)))) rfl rfl rfl rfl rfl) ?_
  refine l_op (s_call rfl (by kernel_rfl) (concat_fields_ef [l.take (gidx c l), [x], l.drop (gidx c l)] (by simp) (by simp; omega)) ⟨(kn rfl), trivial⟩) ?_
  refine l_as ?_
  refine e_nil ?_
  try refine e_fl ?_
  exact e_return rfl rfl (.tmp (kn rfl) (.nil)) (Imp.of_eq (by rw [show gwith c l x true = [l.take (gidx c l), [x], l.drop (gidx c l)].flatten by simp [gwith, hfo]]; rfl)) rfl
set_option maxRecDepth 100000 in
theorem found_fields_ef (f : FuncId) (hfc : callable Try.prog f = true) (l : List (Int × Vl)) (hl : l.length ≤ 1000000) (x : Int × Vl) (c : Int × Vl → Int) (hmono : ∀ (i j : Nat) x y, i ≤ j → l[i]? = some x → l[j]? = some y → c y < 0 → c x < 0) (hc : ∀ y ∈ l, EF Try.prog [] f [.many (fd y), .many (fd x)] (.part (iP (c y)))) :
    EF Try.prog [] 57 [.one (.row 8 l.length (l.flatMap fieldDats)), .many (fd x), fP f] (.part (.many (fd (gat c l)))) := by
  have hle := gidx_le c l
  refine ef_enter 24 Try.func57 rfl rfl rfl fun w D => ?_
  try refine e_fl ?_
  refine e_list ?_
  refine e_box 4 rfl rfl rfl rfl (kn rfl) rfl rfl rfl rfl ?_
  refine e_alloc 6 [.is (.int .i64 0), .is (.int .i64 0), .is (.int .u64 0), .is (.string ⟨#[]⟩), .is (.slice none 0 0), .is (.string ⟨#[]⟩), .is (.slice none 0 0), .is (.slice none 0 0)] rfl rfl rfl rfl zr_58 (fun w D M V => ⟨rfl, fun j x v h1 h2 => cfit_is _ h1 h2 rfl⟩) rfl rfl rfl rfl ?_
  refine e_nil ?_
  try refine e_fl ?_
  refine e_plain (w_mv rfl rfl rfl rfl rfl (w_op rfl rfl rfl (s_loadn_box (ds := [_, _, _, _, _, _, _, _]) 8 rfl (kn rfl) rfl rfl agg_58 sz_58 rfl) (w_mv rfl rfl rfl rfl rfl (w_op rfl rfl rfl (s_call rfl (by kernel_rfl) (bs_fields_ef f hfc l hl x c hmono hc) ⟨(kn rfl), ⟨(kn rfl), ⟨(kn rfl), trivial⟩⟩⟩) (w_mv rfl rfl rfl rfl rfl (w_op rfl rfl rfl (s_extract rfl (kn rfl) rfl) (w_op rfl rfl rfl (s_extract rfl (kn rfl) rfl) (w_as rfl rfl rfl rfl rfl (w_as rfl rfl rfl rfl rfl .nil))))))))) ?_
  try refine e_fl ?_
  refine e_plain (w_mv rfl rfl rfl rfl rfl (w_op rfl rfl rfl (s_not rfl (kn rfl)) .nil)) ?_
  try refine e_fl ?_
  refine e_cond rfl (fun hfo => ?_) (fun hfo => ?_)
  · have e : gat c l = default := if_neg (by simpa using hfo)
    try refine e_fl ?_
    refine e_list ?_
    refine e_alloc 9 [.is (.int .i64 0), .is (.int .i64 0), .is (.int .u64 0), .is (.string ⟨#[]⟩), .is (.slice none 0 0), .is (.string ⟨#[]⟩), .is (.slice none 0 0), .is (.slice none 0 0)] rfl rfl rfl rfl zr_58 (fun w D M V => ⟨rfl, fun j x v h1 h2 => cfit_is _ h1 h2 rfl⟩) rfl rfl rfl rfl ?_
    refine e_nil ?_
    try refine e_fl ?_
    refine e_list ?_
    refine l_op (s_loadn_box (ds := [_, _, _, _, _, _, _, _]) 8 rfl (kn rfl) rfl rfl agg_58 sz_58 rfl) ?_
    refine e_storew rfl rfl rfl (kn rfl) rfl (kn rfl) rfl rfl sz_58 ?_
    refine e_nil ?_
    try refine e_fl ?_
    exact e_return rfl rfl (.cell rfl rfl rfl agg_58 sz_58 rfl (.nil)) (Imp.many (by rw [e]; exact ⟨DImp.refl _, DImp.refl _, DImp.refl _, DImp.refl _, DImp.nil 8, DImp.refl _, DImp.nil 7, DImp.nil 14, trivial⟩)) rfl
  have hfo' : gfound c l = true := by simpa using hfo
  have hlt : gidx c l < l.length := by
    have h1 := hfo'
    unfold gfound at h1
    simp only [Bool.and_eq_true, decide_eq_true_eq] at h1
    exact h1.1
  have e : gat c l = l.getD (gidx c l) default := if_pos hfo'
  try refine e_fl ?_
  refine e_list ?_
  refine l_mv ?_
  refine l_mv ?_
  refine l_op (s_index rfl (kn rfl) (kn rfl) (by omega) (getD_some hlt) fieldDats_len sle_23 esz_23 (fieldDats_vd _)) ?_
  refine l_op (s_loadn_ref rfl (kn rfl) agg_58 sz_58) ?_
  refine e_storew rfl rfl rfl (kn rfl) rfl (kn rfl) rfl rfl sz_58 ?_
  refine e_nil ?_
  try refine e_fl ?_
  exact e_return rfl rfl (.cell rfl rfl rfl agg_58 sz_58 rfl (.nil)) (Imp.of_eq (by rw [e]; rfl)) rfl
theorem info_pairs : (Try.prog.info? 62).map (fun i => (i.zero.map (·.cells.size), i.size, i.bytes)) = some (some 14, 14, 240) := by kernel_rfl
set_option maxRecDepth 100000 in
set_option maxHeartbeats 400000 in
theorem grow_pairs_any (w : World) (n : Nat) (hn : n ≤ 100000000) :
    Calls Try.prog 74 #[.slice none 0 0, .int .i64 (n : Int)] w fun e w' => ∃ v, e = .returned v ∧ Below w.heap.size w w' ∧ w'.ownsRow w.heap.size 62 14 v 0 [] := by
  obtain ⟨i0, hi, hz0, hz1, hz2⟩ : ∃ i, Try.prog.info? 62 = some i ∧ i.zero.map (·.cells.size) = some 14 ∧ i.size = 14 ∧ i.bytes = 240 := by
    obtain ⟨i, h1, h2⟩ := Option.map_eq_some_iff.1 info_pairs
    simp only [Prod.mk.injEq] at h2
    exact ⟨i, h1, h2.1, h2.2.1, h2.2.2⟩
  obtain ⟨z, hz, hzs⟩ := Option.map_eq_some_iff.1 hz0
  obtain ⟨cs, rfl⟩ : ∃ cs, z = .agg cs := by
    cases z <;> first | exact ⟨_, rfl⟩ | exact absurd hzs (show ¬ (1 = 14) by decide)
  by_cases h0 : 0 < n
  · have hr := Lib.run_append_nil_zeros (P := Try.prog) w 25 3 25 62 i0 (.agg cs) .i64 .i64 Try.underlying25 Try.underlying3 hi hz n h0 (by omega) (by omega) (by rw [hz2]; omega)
    have HR := Lib.hid hr
    clear hr
    go_enter Try.func74, Try.ntmps74
    go_wp2_with (at_builtin; refine Lib.wpList_append_run _ rfl _ _ _ _ rfl _ _ rfl rfl _ _ HR.out ?_)
    go_ret
    have hge := grownCap_ge w n 0 62
    refine ⟨_, rfl, ((Below.refl _ _).drew).alloc (Nat.le_refl _) _, ⟨by simp, .inr ⟨w.heap.size, grownCap w n 0 62, _, rfl, Nat.le_refl _, heap_alloc_new w.drew _, Nat.zero_le _, grownCap_le_maxLen w n 0 _ (by unfold maxLen; omega), ?_, by simp⟩⟩⟩
    rw [Array.size_append, zeroCells_size, zeroCells_size, ← Nat.add_mul]
    exact congr (congrArg HMul.hMul (by omega)) hzs
  · obtain rfl : n = 0 := by omega
    go_enter Try.func74, Try.ntmps74
    go_wp2
    go_ret
    exact ⟨_, rfl, Below.refl _ _, World.ownsRow_nil _ _ _ _⟩
theorem grow_pairs_row (n : Nat) (hn : n ≤ 100000000) (w : World) (D : Nat → Prop) (vs : List Value) (h : PsFit w D [.one (.cell (.slice none 0 0)), iP (n : Int)] vs) : Calls Try.prog 74 vs.toArray w fun e w' => ∃ v, e = .returned v ∧ Below w.heap.size w w' ∧ w'.ownsRow w.heap.size 62 14 v 0 [] := by
  match vs, h with
  | [a, b], ⟨h1, h2, _⟩ =>
    obtain rfl := Lies.cell_eq h1
    obtain rfl := Lies.cell_eq h2
    exact grow_pairs_any w n hn
set_option maxRecDepth 100000 in
set_option maxHeartbeats 1000000 in
theorem concat_pairs_ef (ps : List (List (Vl × Vl))) (hp : ps.length ≤ 1000000) (hf : ps.flatten.length ≤ 10000000) :
    EF Try.prog [] 71 [.one (.row 1 ps.length (ps.flatMap fun p => [.row 14 p.length (p.flatMap pairDats)]))] (.part (.one (.row 14 ps.flatten.length (ps.flatten.flatMap pairDats)))) := by
  refine ef_enter 36 Try.func71 rfl rfl rfl fun w D => ?_
  try refine e_fl ?_
  refine e_plain (w_as rfl rfl rfl rfl rfl .nil) ?_
  try refine e_fl ?_
  refine e_plain (w_as rfl rfl rfl rfl rfl .nil) ?_
  try refine e_fl ?_
  refine e_plain (w_mv rfl rfl rfl rfl rfl (w_op rfl rfl rfl (s_len rfl (kn rfl) sle_101) (w_mv rfl rfl rfl rfl rfl .nil))) ?_
  try refine e_fl ?_
  refine e_loop (ι := { k : Nat // k ≤ ps.length })
    (fun k => [(0, .part (.one (.row 1 ps.length (ps.flatMap fun p => [.row 14 p.length (p.flatMap pairDats)])))), (3, .is (.int .i64 ((ps.take k.1).flatten.length : Int))), (9, .part (.one (.row 1 ps.length (ps.flatMap fun p => [.row 14 p.length (p.flatMap pairDats)])))), (10, .is (.int .i64 (ps.length : Int))), (11, .is (.int .i64 (k.1 : Int)))])
    (fun _ => []) (fun _ => []) (fun k => ps.length - k.1) ⟨0, by omega⟩
    (fun K => e_sub ⟨s_t, s_t, s_t, s_t, s_t, trivial⟩ trivial trivial) ?_
  rintro ⟨k, hk⟩
  dsimp only at hk ⊢
  try refine e_fl ?_
  refine e_plain (w_op rfl rfl rfl (s_bin rfl (kn rfl) (kn rfl) v_lss) .nil) ?_
  try refine e_fl ?_
  refine e_cond rfl (fun h => ?_) (fun h => ?_)
  · have hlt : k < ps.length := by have := of_decide_eq_true h; omega
    obtain ⟨p, hq⟩ : ∃ p, ps[k]? = some p := ⟨_, List.getElem?_eq_getElem hlt⟩
    have htk : (ps.take (k + 1)).flatten.length = (ps.take k).flatten.length + p.length := by rw [flatten_take hq, List.length_append]
    have hle := flatten_le ps (k + 1)
    try refine e_fl ?_
    refine e_plain (w_op rfl rfl rfl (s_index rfl (kn rfl) (kn rfl) (by omega) hq (fun _ => rfl) sle_101 esz_101 rfl) (w_op rfl rfl rfl (s_load1_ref rfl (kn rfl) one_25) (w_as rfl rfl rfl rfl rfl .nil))) ?_
    try refine e_fl ?_
    refine e_plain (w_mv rfl rfl rfl rfl rfl (w_mv rfl rfl rfl rfl rfl (w_op rfl rfl rfl (s_len rfl (kn rfl) sle_25) (w_op rfl rfl rfl (s_bin rfl (kn rfl) (kn rfl) (v_add64 (by first | omega | (dsimp only; omega) | omega))) (w_as rfl rfl rfl rfl rfl .nil))))) ?_
    try refine e_fl ?_
    refine e_plain (w_mv rfl rfl rfl rfl rfl (w_op rfl rfl rfl (s_bin rfl (kn rfl) (kn rfl) v_lss) .nil)) ?_
    try refine e_fl ?_
    refine e_cond rfl (fun h1 => ?_) (fun h1 => ?_)
    · exfalso
      have := of_decide_eq_true h1
      omega
    try refine e_fl ?_
    refine e_plain (w_op rfl rfl rfl (s_bin rfl (kn rfl) (kn rfl) (v_add64 (by first | omega | (dsimp only; omega) | omega))) (w_mv rfl rfl rfl rfl rfl .nil)) ?_
    try refine e_fl ?_
    refine e_again ⟨k + 1, by omega⟩ (by dsimp only; omega) (fun K => e_sub ⟨s_t, ⟨_, rfl, kI (by dsimp only; omega)⟩, s_t, s_t, s_t, trivial⟩ trivial trivial)
  obtain rfl : k = ps.length := by have := of_decide_eq_false h; omega
  rw [List.take_length]
  clear h
  try refine e_fl ?_
  refine e_list ?_
  refine l_mv ?_
  refine e_call_row (ps := [.one (.cell (.slice none 0 0)), iP (ps.flatten.length : Int)]) 100 rfl rfl rfl rfl (by kernel_rfl) ⟨kn rfl, kn rfl, trivial⟩ (grow_pairs_row ps.flatten.length (by omega)) rfl rfl ?_
  refine l_as ?_
  refine e_nil ?_
  try refine e_fl ?_
  refine e_plain (w_mv rfl rfl rfl rfl rfl (w_op rfl rfl rfl (s_len rfl (kn rfl) sle_101) (w_mv rfl rfl rfl rfl rfl .nil))) ?_
  try refine e_fl ?_
  refine e_loop (ι := { k : Nat // k ≤ ps.length })
    (fun k => [(6, .own 100), (25, .part (.one (.row 1 ps.length (ps.flatMap fun p => [.row 14 p.length (p.flatMap pairDats)])))), (26, .is (.int .i64 (ps.length : Int))), (27, .is (.int .i64 (k.1 : Int)))])
    (fun _ => []) (fun k => [(100, ⟨62, 14, (ps.take k.1).flatten.length, (ps.take k.1).flatten.flatMap pairDats, false⟩)]) (fun k => ps.length - k.1) ⟨0, by omega⟩
    (fun K => e_sub ⟨s_t, s_t, s_t, s_t, trivial⟩ trivial ⟨rfl, trivial⟩) ?_
  rintro ⟨k, hk⟩
  dsimp only at hk ⊢
  try refine e_fl ?_
  refine e_plain (w_op rfl rfl rfl (s_bin rfl (kn rfl) (kn rfl) v_lss) .nil) ?_
  try refine e_fl ?_
  refine e_cond rfl (fun h => ?_) (fun h => ?_)
  · have hlt : k < ps.length := by have := of_decide_eq_true h; omega
    obtain ⟨p, hq⟩ : ∃ p, ps[k]? = some p := ⟨_, List.getElem?_eq_getElem hlt⟩
    have htk := flatten_take hq
    have hle := flatten_le ps (k + 1)
    have hlen : (ps.take (k + 1)).flatten.length = (ps.take k).flatten.length + p.length := by rw [htk, List.length_append]
    try refine e_fl ?_
    refine e_plain (w_op rfl rfl rfl (s_index rfl (kn rfl) (kn rfl) (by omega) hq (fun _ => rfl) sle_101 esz_101 rfl) (w_op rfl rfl rfl (s_load1_ref rfl (kn rfl) one_25) (w_as rfl rfl rfl rfl rfl .nil))) ?_
    try refine e_fl ?_
    refine e_list ?_
    refine l_mv ?_
    refine l_mv ?_
    refine e_append rfl rfl rfl rfl (kn rfl) rfl (kn rfl) sl_25 ap_25 rfl (pdats_one p) (by first | omega | (dsimp only; omega) | omega) (by first | omega | (dsimp only; omega) | omega) ?_
    refine l_as ?_
    refine e_nil ?_
    try refine e_fl ?_
    refine e_plain (w_op rfl rfl rfl (s_bin rfl (kn rfl) (kn rfl) (v_add64 (by first | omega | (dsimp only; omega) | omega))) (w_mv rfl rfl rfl rfl rfl .nil)) ?_
    try refine e_fl ?_
    refine e_again ⟨k + 1, by omega⟩ (by dsimp only; omega) (fun K => e_sub ⟨s_t, s_t, s_t, s_t, trivial⟩ trivial ⟨rowEq rfl hlen.symm (by rw [htk, List.flatMap_append]), trivial⟩)
  obtain rfl : k = ps.length := by have := of_decide_eq_false h; omega
  try refine e_fl ?_
  refine e_plain (w_mv rfl rfl rfl rfl rfl (w_as rfl rfl rfl rfl rfl .nil)) ?_
  try refine e_fl ?_
  refine e_freeze_slot 2 100 rfl rfl rfl ?_
  exact e_return rfl rfl (.tmp (kn rfl) (.nil)) (Imp.of_eq (by rw [List.take_length]; rfl)) rfl
set_option maxRecDepth 100000 in
set_option maxHeartbeats 1000000 in
theorem with_pairs_ef (f : FuncId) (hfc : callable Try.prog f = true) (l : List (Vl × Vl)) (hl : l.length ≤ 1000000) (x : Vl × Vl) (st : Bool) (c : Vl × Vl → Int) (hmono : ∀ (i j : Nat) x y, i ≤ j → l[i]? = some x → l[j]? = some y → c y < 0 → c x < 0) (hc : ∀ y ∈ l, EF Try.prog [] f [.many (pd y), .many (pd x)] (.part (iP (c y)))) :
    EF Try.prog [] 58 [.one (.row 14 l.length (l.flatMap pairDats)), .many (pd x), tP st, fP f] (.part (.one (.row 14 (gwith c l x st).length ((gwith c l x st).flatMap pairDats)))) := by
  have hle := gidx_le c l
  have hone : [x].flatMap pairDats = pd x := by simp [pairDats_vd]
  refine ef_enter 41 Try.func58 rfl rfl rfl fun w D => ?_
  try refine e_fl ?_
  refine e_list ?_
  refine e_box 5 rfl rfl rfl rfl (kn rfl) rfl rfl rfl rfl ?_
  refine l_as ?_
  refine e_nil ?_
  try refine e_fl ?_
  refine e_plain (w_mv rfl rfl rfl rfl rfl (w_op rfl rfl rfl (s_loadn_box (ds := [_, _, _, _, _, _, _, _, _, _, _, _, _, _]) 14 rfl (kn rfl) rfl rfl agg_62 sz_62 rfl) (w_mv rfl rfl rfl rfl rfl (w_op rfl rfl rfl (s_call rfl (by kernel_rfl) (bs_pairs_ef f hfc l hl x c hmono hc) ⟨(kn rfl), ⟨(kn rfl), ⟨(kn rfl), trivial⟩⟩⟩) (w_mv rfl rfl rfl rfl rfl (w_op rfl rfl rfl (s_extract rfl (kn rfl) rfl) (w_op rfl rfl rfl (s_extract rfl (kn rfl) rfl) (w_as rfl rfl rfl rfl rfl (w_as rfl rfl rfl rfl rfl .nil))))))))) ?_
  try refine e_fl ?_
  refine e_draw mixed (by kernel_rfl) (w_mv rfl rfl rfl rfl rfl (w_mv rfl rfl rfl rfl rfl (w_op rfl rfl rfl (s_rslice_to rfl (kn rfl) (kn rfl) (by omega) pairDats_len sle_25 esz_25) (w_mv rfl rfl rfl rfl rfl (w_mv rfl rfl rfl rfl rfl (w_op rfl rfl rfl (s_rslice_from rfl (kn rfl) (kn rfl) (by omega) pairDats_len sle_25 esz_25) (w_as rfl rfl rfl rfl rfl (w_as rfl rfl rfl rfl rfl .nil)))))))) ?_
  try refine e_fl ?_
  refine e_plain (w_mv rfl rfl rfl rfl rfl .nil) ?_
  try refine e_fl ?_
  refine e_cond rfl (fun hfo => ?_) (fun hfo => ?_)
  · have hlt : gidx c l < l.length := by
      have h1 := hfo
      unfold gfound at h1
      simp only [Bool.and_eq_true, decide_eq_true_eq] at h1
      exact h1.1
    have hdl : (l.drop ((gidx c l : Nat) : Int).toNat).length = l.length - gidx c l := by rw [Int.toNat_natCast]; exact List.length_drop
    try refine e_fl ?_
    refine e_plain (w_mv rfl rfl rfl rfl rfl (w_op rfl rfl rfl (s_rslice_from rfl (kn rfl) (kn rfl) (by omega) pairDats_len sle_25 esz_25) (w_as rfl rfl rfl rfl rfl .nil))) ?_
    try refine e_fl ?_
    try refine e_fl ?_
    refine e_plain (w_mv rfl rfl rfl rfl rfl (w_op rfl rfl rfl (s_not rfl (kn rfl)) .nil)) ?_
    try refine e_fl ?_
    refine e_cond rfl (fun q => ?_) (fun q => ?_)
    · obtain rfl : st = false := by simpa using q
      try refine e_fl ?_
      refine e_plain (w_mv rfl rfl rfl rfl rfl (w_mv rfl rfl rfl rfl rfl (w_op rfl rfl rfl (s_buildSlice (ds := [_, _]) [(0, _), (1, _)] rfl ⟨rfl, (kn rfl), ⟨rfl, (kn rfl), trivial⟩⟩ rfl sl_101 sz_25 zr_25 (fun w D => .cons (.cell _) (.cons (.cell _) (.nil _ _))) rfl rfl rfl rfl rfl) (w_op rfl rfl rfl (s_call rfl (by kernel_rfl) (concat_pairs_ef [l.take (gidx c l), (l.drop (gidx c l)).drop 1] (by simp) (by simp; omega)) ⟨(kn rfl), trivial⟩) (w_as rfl rfl rfl rfl rfl .nil))))) ?_
      try refine e_fl ?_
      exact e_return rfl rfl (.tmp (kn rfl) (.nil)) (Imp.of_eq (by rw [show gwith c l x false = [l.take (gidx c l), (l.drop (gidx c l)).drop 1].flatten by simp [gwith, hfo]]; rfl)) rfl
    obtain rfl : st = true := by simpa using q
    try refine e_fl ?_
    refine e_list ?_
    refine l_mv ?_
    refine l_op (s_loadn_box (ds := [_, _, _, _, _, _, _, _, _, _, _, _, _, _]) 14 rfl (kn rfl) rfl rfl agg_62 sz_62 rfl) ?_
    refine l_op (s_buildSlice (ds := [_, _, _, _, _, _, _, _, _, _, _, _, _, _]) [(0, _)] rfl ⟨rfl, (kn rfl), trivial⟩ rfl sl_25 sz_62 zr_62 (fun w D => .cons (.cell _) (.cons (.cell _) (.cons (.cell _) (.cons (.cell _) (.cons (.cell _) (.cons (.cell _) (.cons (.cell _) (.cons (.cell _) (.cons (.cell _) (.cons (.cell _) (.cons (.cell _) (.cons (.cell _) (.cons (.cell _) (.cons (.cell _) (.nil _ _))))))))))))))) rfl rfl rfl rfl rfl) ?_
    refine e_slot (y := .part (.one (.row 14 [x].length ([x].flatMap pairDats)))) 37 rfl (Imp.of_eq (by rw [hone]; rfl)) ?_
    refine l_mv ?_
    refine l_op (s_buildSlice (ds := [_, _, _]) [(0, _), (1, _), (2, _)] rfl ⟨rfl, (kn rfl), ⟨rfl, (kn rfl), ⟨rfl, (kn rfl), trivial⟩⟩⟩ rfl sl_101 sz_25 zr_25 (fun w D => .cons (.cell _) (.cons (.cell _) (.cons (.cell _) (.nil _ _)))) rfl rfl rfl rfl rfl) ?_
    refine l_op (s_call rfl (by kernel_rfl) (concat_pairs_ef [l.take (gidx c l), [x], (l.drop (gidx c l)).drop 1] (by simp) (by simp; omega)) ⟨(kn rfl), trivial⟩) ?_
    refine l_as ?_
    refine e_nil ?_
    try refine e_fl ?_
    exact e_return rfl rfl (.tmp (kn rfl) (.nil)) (Imp.of_eq (by rw [show gwith c l x true = [l.take (gidx c l), [x], (l.drop (gidx c l)).drop 1].flatten by simp [gwith, hfo]]; rfl)) rfl
  try refine e_fl ?_
  refine e_plain (w_mv rfl rfl rfl rfl rfl (w_op rfl rfl rfl (s_not rfl (kn rfl)) .nil)) ?_
  try refine e_fl ?_
  refine e_cond rfl (fun q => ?_) (fun q => ?_)
  · obtain rfl : st = false := by simpa using q
    try refine e_fl ?_
    refine e_plain (w_mv rfl rfl rfl rfl rfl (w_mv rfl rfl rfl rfl rfl (w_op rfl rfl rfl (s_buildSlice (ds := [_, _]) [(0, _), (1, _)] rfl ⟨rfl, (kn rfl), ⟨rfl, (kn rfl), trivial⟩⟩ rfl sl_101 sz_25 zr_25 (fun w D => .cons (.cell _) (.cons (.cell _) (.nil _ _))) rfl rfl rfl rfl rfl) (w_op rfl rfl rfl (s_call rfl (by kernel_rfl) (concat_pairs_ef [l.take (gidx c l), l.drop (gidx c l)] (by simp) (by simp; omega)) ⟨(kn rfl), trivial⟩) (w_as rfl rfl rfl rfl rfl .nil))))) ?_
    try refine e_fl ?_
    exact e_return rfl rfl (.tmp (kn rfl) (.nil)) (Imp.of_eq (by rw [show gwith c l x false = [l.take (gidx c l), l.drop (gidx c l)].flatten by simp [gwith, hfo]]; rfl)) rfl
  obtain rfl : st = true := by simpa using q
  try refine e_fl ?_
  refine e_list ?_
  refine l_mv ?_
  refine l_op (s_loadn_box (ds := [_, _, _, _, _, _, _, _, _, _, _, _, _, _]) 14 rfl (kn rfl) rfl rfl agg_62 sz_62 rfl) ?_
  refine l_op (s_buildSlice (ds := [_, _, _, _, _, _, _, _, _, _, _, _, _, _]) [(0, _)] rfl ⟨rfl, (kn rfl), trivial⟩ rfl sl_25 sz_62 zr_62 (fun w D => .cons (.cell _) (.cons (.cell _) (.cons (.cell _) (.cons (.cell _) (.cons (.cell _) (.cons (.cell _) (.cons (.cell _) (.cons (.cell _) (.cons (.cell _) (.cons (.cell _) (.cons (.cell _) (.cons (.cell _) (.cons (.cell _) (.cons (.cell _) (.nil _ _))))))))))))))) rfl rfl rfl rfl rfl) ?_
  refine e_slot (y := .part (.one (.row 14 [x].length ([x].flatMap pairDats)))) 37 rfl (Imp.of_eq (by rw [hone]; rfl)) ?_
  refine l_mv ?_
  refine l_op (s_buildSlice (ds := [_, _, _]) [(0, _), (1, _), (2, _)] rfl ⟨rfl, (kn rfl), ⟨rfl, (kn rfl), ⟨rfl, (kn rfl), trivial⟩⟩⟩ rfl sl_101 sz_25 zr_25 (fun w D => .cons (.cell _) (.cons (.cell _) (.cons (.cell _) (.nil _ _)))) rfl rfl rfl rfl rfl) ?_
  refine l_op (s_call rfl (by kernel_rfl) (concat_pairs_ef [l.take (gidx c l), [x], l.drop (gidx c l)] (by simp) (by simp; omega)) ⟨(kn rfl), trivial⟩) ?_
  refine l_as ?_
  refine e_nil ?_
  try refine e_fl ?_
  exact e_return rfl rfl (.tmp (kn rfl) (.nil)) (Imp.of_eq (by rw [show gwith c l x true = [l.take (gidx c l), [x], l.drop (gidx c l)].flatten by simp [gwith, hfo]]; rfl)) rfl
set_option maxRecDepth 100000 in
theorem found_pairs_ef (f : FuncId) (hfc : callable Try.prog f = true) (l : List (Vl × Vl)) (hl : l.length ≤ 1000000) (x : Vl × Vl) (c : Vl × Vl → Int) (hmono : ∀ (i j : Nat) x y, i ≤ j → l[i]? = some x → l[j]? = some y → c y < 0 → c x < 0) (hc : ∀ y ∈ l, EF Try.prog [] f [.many (pd y), .many (pd x)] (.part (iP (c y)))) :
    EF Try.prog [] 60 [.one (.row 14 l.length (l.flatMap pairDats)), .many (pd x), fP f] (.part (.many (pd (gat c l)))) := by
  have hle := gidx_le c l
  refine ef_enter 24 Try.func60 rfl rfl rfl fun w D => ?_
  try refine e_fl ?_
  refine e_list ?_
  refine e_box 4 rfl rfl rfl rfl (kn rfl) rfl rfl rfl rfl ?_
  refine e_alloc 6 [.is (.int .i64 0), .is (.int .u64 0), .is (.string ⟨#[]⟩), .is (.slice none 0 0), .is (.string ⟨#[]⟩), .is (.slice none 0 0), .is (.slice none 0 0), .is (.int .i64 0), .is (.int .u64 0), .is (.string ⟨#[]⟩), .is (.slice none 0 0), .is (.string ⟨#[]⟩), .is (.slice none 0 0), .is (.slice none 0 0)] rfl rfl rfl rfl zr_62 (fun w D M V => ⟨rfl, fun j x v h1 h2 => cfit_is _ h1 h2 rfl⟩) rfl rfl rfl rfl ?_
  refine e_nil ?_
  try refine e_fl ?_
  refine e_plain (w_mv rfl rfl rfl rfl rfl (w_op rfl rfl rfl (s_loadn_box (ds := [_, _, _, _, _, _, _, _, _, _, _, _, _, _]) 14 rfl (kn rfl) rfl rfl agg_62 sz_62 rfl) (w_mv rfl rfl rfl rfl rfl (w_op rfl rfl rfl (s_call rfl (by kernel_rfl) (bs_pairs_ef f hfc l hl x c hmono hc) ⟨(kn rfl), ⟨(kn rfl), ⟨(kn rfl), trivial⟩⟩⟩) (w_mv rfl rfl rfl rfl rfl (w_op rfl rfl rfl (s_extract rfl (kn rfl) rfl) (w_op rfl rfl rfl (s_extract rfl (kn rfl) rfl) (w_as rfl rfl rfl rfl rfl (w_as rfl rfl rfl rfl rfl .nil))))))))) ?_
  try refine e_fl ?_
  refine e_plain (w_mv rfl rfl rfl rfl rfl (w_op rfl rfl rfl (s_not rfl (kn rfl)) .nil)) ?_
  try refine e_fl ?_
  refine e_cond rfl (fun hfo => ?_) (fun hfo => ?_)
  · have e : gat c l = default := if_neg (by simpa using hfo)
    try refine e_fl ?_
    refine e_list ?_
    refine e_alloc 9 [.is (.int .i64 0), .is (.int .u64 0), .is (.string ⟨#[]⟩), .is (.slice none 0 0), .is (.string ⟨#[]⟩), .is (.slice none 0 0), .is (.slice none 0 0), .is (.int .i64 0), .is (.int .u64 0), .is (.string ⟨#[]⟩), .is (.slice none 0 0), .is (.string ⟨#[]⟩), .is (.slice none 0 0), .is (.slice none 0 0)] rfl rfl rfl rfl zr_62 (fun w D M V => ⟨rfl, fun j x v h1 h2 => cfit_is _ h1 h2 rfl⟩) rfl rfl rfl rfl ?_
    refine e_nil ?_
    try refine e_fl ?_
    refine e_list ?_
    refine l_op (s_loadn_box (ds := [_, _, _, _, _, _, _, _, _, _, _, _, _, _]) 14 rfl (kn rfl) rfl rfl agg_62 sz_62 rfl) ?_
    refine e_storew rfl rfl rfl (kn rfl) rfl (kn rfl) rfl rfl sz_62 ?_
    refine e_nil ?_
    try refine e_fl ?_
    exact e_return rfl rfl (.cell rfl rfl rfl agg_62 sz_62 rfl (.nil)) (Imp.many (by rw [e]; exact ⟨DImp.refl _, DImp.refl _, DImp.refl _, DImp.nil 8, DImp.refl _, DImp.nil 7, DImp.nil 14, DImp.refl _, DImp.refl _, DImp.refl _, DImp.nil 8, DImp.refl _, DImp.nil 7, DImp.nil 14, trivial⟩)) rfl
  have hfo' : gfound c l = true := by simpa using hfo
  have hlt : gidx c l < l.length := by
    have h1 := hfo'
    unfold gfound at h1
    simp only [Bool.and_eq_true, decide_eq_true_eq] at h1
    exact h1.1
  have e : gat c l = l.getD (gidx c l) default := if_pos hfo'
  try refine e_fl ?_
  refine e_list ?_
  refine l_mv ?_
  refine l_mv ?_
  refine l_op (s_index rfl (kn rfl) (kn rfl) (by omega) (getD_some hlt) pairDats_len sle_25 esz_25 (pairDats_vd _)) ?_
  refine l_op (s_loadn_ref rfl (kn rfl) agg_62 sz_62) ?_
  refine e_storew rfl rfl rfl (kn rfl) rfl (kn rfl) rfl rfl sz_62 ?_
  refine e_nil ?_
  try refine e_fl ?_
  exact e_return rfl rfl (.cell rfl rfl rfl agg_62 sz_62 rfl (.nil)) (Imp.of_eq (by rw [e]; rfl)) rfl
end Go.Proofs.Ytlikbiiimhfnkaa
