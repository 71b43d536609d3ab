/- Part 30 of what the last text of this claim is proved by: walks over the program, and the math behind them. Conditions: as each theorem says. -/
import Derived.Test.YtekeanikgcpijaaDoorSO29
import Derived.Test.YtekeanikgcpijaaDoorProg
namespace Go.Proofs.YtekeanikgcpijaaDoor
open Go.RowKit
def headPt (s : List UInt8) : Bool := match s with | 46 :: _ => true | _ => false
def cutPt (s : List UInt8) : List UInt8 := match s with | 46 :: r => r | _ => s
theorem headPt_take (s : List UInt8) : headPt s = (decide (1 ≤ s.length) && decide (s.take 1 = [46])) := by
  match s with
  | [] => rfl
  | c :: r =>
    unfold headPt
    split
    · rename_i h
      injection h with h1 h2
      subst h1
      simp
    · rename_i h
      have : c ≠ 46 := fun e => h r (by rw [e])
      simp [this]
theorem cutPt_drop {s : List UInt8} (h : headPt s = true) : s.drop 1 = cutPt s := by
  unfold headPt at h
  split at h
  · rfl
  · cases h
theorem headPt_cons (c : UInt8) (r : List UInt8) : headPt (c :: r) = decide (c = 46) := by
  unfold headPt
  split
  · rename_i h
    injection h with h1 h2
    simp [h1]
  · rename_i h
    have : c ≠ 46 := fun e => h r (by rw [e])
    simp [this]
theorem cutPt_cons (c : UInt8) (r : List UInt8) : cutPt (c :: r) = if c = 46 then r else c :: r := by
  unfold cutPt
  split
  · rename_i h
    injection h with h1 h2
    subst h1 h2
    rfl
  · rename_i h
    have : c ≠ 46 := fun e => h r (by rw [e])
    simp [this]
theorem cutPt_not {s : List UInt8} (h : headPt s = false) : cutPt s = s := by
  match s with
  | [] => rfl
  | c :: r =>
    rw [headPt_cons] at h
    rw [cutPt_cons, if_neg (of_decide_eq_false h)]
theorem headPt_len {s : List UInt8} (h : headPt s = true) : 1 ≤ s.length := by
  match s, h with
  | [], h => cases h
  | c :: r, _ => simp
set_option maxRecDepth 100000 in
theorem hasp_ef (gls : List (Nat × List Value)) (s : List UInt8) (hs : s.length ≤ 1000000000000) : EF Tryd.prog gls 35 [sP s, sP [46]] (.part (bP (headPt s))) := by
  have he : decide ((1 : Int) ≤ (s.length : Int)) = decide (1 ≤ s.length) := decide_eq_decide.2 (by omega)
  refine ef_enter 18 Tryd.func35 rfl rfl rfl fun w D => ?_
  try refine e_fl ?_
  refine e_plain (w_as rfl rfl rfl rfl rfl .nil) ?_
  try refine e_fl ?_
  refine e_plain (w_mv rfl rfl rfl rfl rfl (w_op rfl rfl rfl (s_slen rfl (kn rfl) str_9) (w_mv rfl rfl rfl rfl rfl (w_op rfl rfl rfl (s_slen rfl (kn rfl) str_9) (w_op rfl rfl rfl (s_bin rfl (kn rfl) (kn rfl) v_geq) (w_mv rfl rfl rfl rfl rfl (Walk.gd _ rfl rfl rfl (fun h => s_move rfl (kn rfl)) (Walk.gd _ rfl rfl rfl (fun h => s_move rfl (kn rfl)) (Walk.gd _ rfl rfl rfl (fun h => s_slen rfl (kn_opt rfl h) str_9) (Walk.gd _ rfl rfl rfl (fun h => s_sslice_to (l := s) (z := 1) rfl (kn_opt rfl h) (kn_opt rfl h) (by have := of_decide_eq_true h; simp at this; omega) str_9) (Walk.gd _ rfl rfl rfl (fun h => s_move rfl (kn rfl)) (Walk.gd _ rfl rfl rfl (fun h => s_bin rfl (kn_opt rfl h) (kn_opt rfl h) (v_seql)) (w_op rfl rfl rfl (s_and rfl (kn rfl) (fun hb => kn_opt rfl hb)) (w_as rfl rfl rfl rfl rfl .nil)))))))))))))) ?_
  try refine e_fl ?_
  exact e_return rfl rfl (.tmp (kn rfl) (.nil)) (Imp.of_eq (by rw [headPt_take, ← he]; simp; rfl)) rfl
set_option maxRecDepth 100000 in
theorem cutp0_ef (gls : List (Nat × List Value)) (s : List UInt8) (hs : s.length ≤ 1000000000000) : EF Tryd.prog gls 23 [sP s, sP [46]] (.tup [sP (cutPt s), bP (headPt s)]) := by
  refine ef_enter 15 Tryd.func23 rfl rfl rfl fun w D => ?_
  try refine e_fl ?_
  refine e_plain (w_as rfl rfl rfl rfl rfl (w_as rfl rfl rfl rfl rfl .nil)) ?_
  try refine e_fl ?_
  refine e_plain (w_mv rfl rfl rfl rfl rfl (w_mv rfl rfl rfl rfl rfl (w_op rfl rfl rfl (s_call rfl (by kernel_rfl) (hasp_ef gls s hs) ⟨(kn rfl), ⟨(kn rfl), trivial⟩⟩) (w_op rfl rfl rfl (s_not rfl (kn rfl)) .nil)))) ?_
  try refine e_fl ?_
  refine e_cond rfl (fun h => ?_) (fun h => ?_)
  · have h1 : headPt s = false := by simpa using h
    try refine e_fl ?_
    refine e_plain (w_mv rfl rfl rfl rfl rfl (w_as rfl rfl rfl rfl rfl (w_as rfl rfl rfl rfl rfl .nil))) ?_
    try refine e_fl ?_
    exact e_return rfl rfl (.tmp (kn rfl) (.tmp (kn rfl) (.nil))) (Imp.of_eq (by rw [h1, cutPt_not h1]; rfl)) rfl
  · have h1 : headPt s = true := by simpa using h
    have hl := headPt_len h1
    try refine e_fl ?_
    refine e_plain (w_mv rfl rfl rfl rfl rfl (w_mv rfl rfl rfl rfl rfl (w_op rfl rfl rfl (s_slen rfl (kn rfl) str_9) (w_op rfl rfl rfl (s_sslice_from (z := 1) rfl (kn rfl) (kn rfl) (by omega) str_9) (w_as rfl rfl rfl rfl rfl (w_as rfl rfl rfl rfl rfl .nil)))))) ?_
    try refine e_fl ?_
    exact e_return rfl rfl (.tmp (kn rfl) (.tmp (kn rfl) (.nil))) (Imp.of_eq (by rw [h1, ← cutPt_drop h1]; rfl)) rfl
set_option maxRecDepth 100000 in
theorem cutp_ef (gls : List (Nat × List Value)) (s : List UInt8) (hs : s.length ≤ 1000000000000) : EF Tryd.prog gls 16 [sP s, sP [46]] (.tup [sP (cutPt s), bP (headPt s)]) := by
  refine ef_enter 11 Tryd.func16 rfl rfl rfl fun w D => ?_
  try refine e_fl ?_
  refine e_plain (w_as rfl rfl rfl rfl rfl (w_as rfl rfl rfl rfl rfl .nil)) ?_
  try refine e_fl ?_
  refine e_plain (w_mv rfl rfl rfl rfl rfl (w_mv rfl rfl rfl rfl rfl (w_op rfl rfl rfl (s_call rfl (by kernel_rfl) (cutp0_ef gls s hs) ⟨(kn rfl), ⟨(kn rfl), trivial⟩⟩) (w_op rfl rfl rfl (s_extract rfl (kn rfl) rfl) (w_op rfl rfl rfl (s_extract rfl (kn rfl) rfl) (w_as rfl rfl rfl rfl rfl (w_as rfl rfl rfl rfl rfl .nil))))))) ?_
  try refine e_fl ?_
  exact e_return rfl rfl (.tmp (kn rfl) (.tmp (kn rfl) (.nil))) (Imp.refl _) rfl
def lookR (r : Option Ty) : IV := .tup [tyP (r.getD ty0), bP r.isSome]
theorem lookT_cut (L : List Ty) (scope name : List UInt8) : lookT L scope name = if headPt name then ffind (cutPt name) L else lookUp L name scope := by
  match name with
  | [] => rfl
  | c :: r =>
    rw [headPt_cons, cutPt_cons]
    by_cases h : c = 46
    · subst h
      simp [lookT]
    · simp [lookT, h]
theorem lookUp_eq (L : List Ty) (name scope : List UInt8) : lookUp L name scope = match ffind (scope ++ 46 :: name) L with | some x => some x | none => if scope = [] then ffind name L else lookUp L name (outM scope) := by
  rw [lookUp]
  cases ffind (scope ++ 46 :: name) L with
  | some x => rfl
  | none =>
    by_cases e : scope = []
    · simp [e]
    · simp [e]
set_option maxRecDepth 100000 in
theorem look_ef (gls : List (Nat × List Value)) (L : List Ty) (hL : TbOk L) (scope name : List UInt8) (h1 : scope.length ≤ 100000000) (h2 : name.length ≤ 100000000) : EF Tryd.prog gls 10 [tabP L, sP scope, sP name] (lookR (lookT L scope name)) := by
  have h40 := hL.2
  rw [lookT_cut]
  refine ef_enter 59 Tryd.func10 rfl rfl rfl fun w D => ?_
  try refine e_fl ?_
  refine e_list ?_
  refine e_alloc 6 [.is (.string ⟨#[]⟩), .is (.bool false), .is (.int .i64 0), .is (.int .i64 0), .is (.int .i64 0)] rfl rfl rfl rfl zr_39 (fun w D M V => ⟨rfl, fun j x v h1 h2 => cfit_is _ h1 h2 rfl⟩) rfl rfl rfl rfl ?_
  refine l_as ?_
  refine e_nil ?_
  try refine e_fl ?_
  refine e_plain (w_mv rfl rfl rfl rfl rfl (w_op rfl rfl rfl (s_call rfl (by kernel_rfl) (cutp_ef gls name (by omega)) ⟨(kn rfl), ⟨(kn rfl), trivial⟩⟩) (w_mv rfl rfl rfl rfl rfl (w_op rfl rfl rfl (s_extract rfl (kn rfl) rfl) (w_op rfl rfl rfl (s_extract rfl (kn rfl) rfl) (w_as rfl rfl rfl rfl rfl (w_as rfl rfl rfl rfl rfl .nil))))))) ?_
  try refine e_fl ?_
  refine e_plain (w_mv rfl rfl rfl rfl rfl .nil) ?_
  try refine e_fl ?_
  refine e_cond rfl (fun h => ?_) (fun h => ?_)
  · rw [if_pos h]
    try refine e_fl ?_
    refine e_list ?_
    refine l_mv ?_
    refine l_mv ?_
    refine l_op (s_call rfl (by kernel_rfl) (find_ef gls L hL (cutPt name)) ⟨(kn rfl), ⟨(kn rfl), trivial⟩⟩) ?_
    refine l_ex ?_
    refine l_ex ?_
    refine e_storew rfl rfl rfl (kn rfl) rfl (kn rfl) rfl rfl sz_39 ?_
    refine l_as ?_
    refine e_nil ?_
    try refine e_fl ?_
    exact e_return rfl rfl (.cell rfl rfl rfl agg_39 sz_39 rfl (.tmp (kn rfl) (.nil))) (Imp.of_eq rfl) rfl
  · rw [if_neg (by rw [h]; decide)]
    try refine e_fl ?_
    refine e_plain (w_mv rfl rfl rfl rfl rfl (w_op rfl rfl rfl (s_bin rfl (kn rfl) (kn rfl) (v_sadd (by first | omega | (simp only [List.length_append, List.length_cons, List.length_nil]; omega)))) (w_as rfl rfl rfl rfl rfl .nil))) ?_
    try refine e_fl ?_
    refine e_plain (w_as rfl rfl rfl rfl rfl .nil) ?_
    try refine e_fl ?_
    refine e_loop (ι := { i : List UInt8 × Bool // i.1.length ≤ scope.length ∧ lookUp L name scope = if i.2 then lookUp L name i.1 else ffind name L })
      (fun i => [(0, .part (tabP L)), (1, .part (sP i.1.1)), (2, .part (sP name)), (6, .box 6 0), (10, .part (sP (46 :: name))), (11, .is (.bool i.1.2))])
      (fun _ => [(6, ⟨39, [.is (.string ⟨#[]⟩), .is (.bool false), .is (.int .i64 0), .is (.int .i64 0), .is (.int .i64 0)]⟩)]) (fun _ => []) (fun i => bif i.1.2 then i.1.1.length + 1 else 0)
      ⟨(scope, true), by simp, by simp⟩
      (fun K => e_sub ⟨s_t, s_t, s_t, s_t, s_t, s_t, trivial⟩ ⟨s_b, trivial⟩ trivial) ?_
    rintro ⟨⟨s, inner⟩, hsl, hlk⟩
    dsimp only at hsl hlk ⊢
    try refine e_fl ?_
    refine e_plain (w_mv rfl rfl rfl rfl rfl .nil) ?_
    try refine e_fl ?_
    refine e_cond rfl (fun hi => ?_) (fun hi => ?_)
    · subst hi
      rw [if_pos rfl] at hlk
      have hle := lookUp_eq L name s
      have hlen : (s.length : Int) + ((46 :: name).length : Int) = ((s ++ 46 :: name).length : Int) := by simp
      have hb1 : (46 :: name).length = name.length + 1 := List.length_cons
      have hm := lens_get L (s ++ 46 :: name).length
      have hnext : ffind (s ++ 46 :: name) L = none → lookUp L name scope = if (!decide (s = [])) = true then lookUp L name (outM s) else ffind name L := fun hn => by
        rw [hlk, hle, hn]
        by_cases e : s = []
        · simp [e]
        · simp [e]
      have hol : (outM s).length ≤ s.length := by rw [outM_len]; exact cutI_le s
      have hmu : (bif !decide (s = []) then (outM s).length + 1 else 0) < s.length + 1 := by
        by_cases e : s = []
        · simp [e]
        · have := outM_lt e
          simp [e]
          omega
      try refine e_fl ?_
      refine e_plain (w_mv rfl rfl rfl rfl rfl (w_op rfl rfl rfl (s_nil_ref rfl (kn_imp (kn rfl) (Imp.ptr_ref _ _))) (w_op rfl rfl rfl (s_faddr_refx rfl (kn rfl) off_58_3 (tab_drop h40 2)) (w_op rfl rfl rfl (s_load1_ref rfl (kn rfl) one_55) (w_mv rfl rfl rfl rfl rfl (w_op rfl rfl rfl (s_slen rfl (kn rfl) str_9) (w_mv rfl rfl rfl rfl rfl (w_op rfl rfl rfl (s_slen rfl (kn rfl) str_9) (w_op rfl rfl rfl (s_bin rfl (kn rfl) (kn rfl) (v_add64 (by first | omega | (dsimp only; omega) | omega))) (w_op rfl rfl rfl (s_dlook1x (kf := kI) (((s ++ 46 :: name).length : Nat) : Int) hm rfl (kn rfl) (kn_imp (kn rfl) (Imp.of_eq (congrArg (fun z => IV.is (.int .i64 z)) hlen))) kfI mapI zB) (w_op rfl rfl rfl (s_not rfl (kn rfl)) .nil))))))))))) ?_
      try refine e_fl ?_
      refine e_cond rfl (fun h3 => ?_) (fun h3 => ?_)
      · have hn := hasLen_find (L := L) (x := s ++ 46 :: name) (by simpa using h3)
        try refine e_fl ?_
        refine e_plain (w_mv rfl rfl rfl rfl rfl (w_op rfl rfl rfl (s_call rfl (by kernel_rfl) (outer_ef gls s (by omega)) ⟨(kn rfl), trivial⟩) (w_mv rfl rfl rfl rfl rfl (w_op rfl rfl rfl (s_extract rfl (kn rfl) rfl) (w_op rfl rfl rfl (s_extract rfl (kn rfl) rfl) (w_as rfl rfl rfl rfl rfl (w_as rfl rfl rfl rfl rfl .nil))))))) ?_
        try refine e_fl ?_
        refine e_again ⟨(outM s, !decide (s = [])), by dsimp only; omega, hnext hn⟩ hmu (fun K => e_sub ⟨s_t, s_t, s_t, s_t, s_t, s_t, trivial⟩ ⟨s_b, trivial⟩ trivial)
      · try refine e_fl ?_
        refine e_list ?_
        refine l_mv ?_
        refine l_mv ?_
        refine l_mv ?_
        refine l_op (s_bin rfl (kn rfl) (kn rfl) (v_sadd (by first | omega | (simp only [List.length_append, List.length_cons, List.length_nil]; omega)))) ?_
        refine l_op (s_call rfl (by kernel_rfl) (find_ef gls L hL (s ++ 46 :: name)) ⟨(kn rfl), ⟨(kn rfl), trivial⟩⟩) ?_
        refine l_mv ?_
        refine l_ex ?_
        refine l_ex ?_
        refine e_alloc 12 [.is (.string ⟨#[]⟩), .is (.bool false), .is (.int .i64 0), .is (.int .i64 0), .is (.int .i64 0)] rfl rfl rfl rfl zr_39 (fun w D M V => ⟨rfl, fun j x v h1 h2 => cfit_is _ h1 h2 rfl⟩) rfl rfl rfl rfl ?_
        refine e_storew rfl rfl rfl (kn rfl) rfl (kn rfl) rfl rfl sz_39 ?_
        refine l_as ?_
        refine e_nil ?_
        try refine e_fl ?_
        refine e_plain (w_mv rfl rfl rfl rfl rfl .nil) ?_
        try refine e_fl ?_
        refine e_cond rfl (fun h4 => ?_) (fun h4 => ?_)
        · obtain ⟨t, ht⟩ := Option.isSome_iff_exists.1 h4
          have hr : lookUp L name scope = some t := by rw [hlk, hle, ht]
          try refine e_fl ?_
          refine e_list ?_
          refine l_op (s_loadn_box (ds := [_, _, _, _, _]) 5 rfl (kn rfl) rfl rfl agg_39 sz_39 rfl) ?_
          refine e_storew rfl rfl rfl (kn rfl) rfl (kn rfl) rfl rfl sz_39 ?_
          refine l_as ?_
          refine e_nil ?_
          try refine e_fl ?_
          exact e_return rfl rfl (.cell rfl rfl rfl agg_39 sz_39 rfl (.tmp (kn rfl) (.nil))) (Imp.of_eq (by rw [hr]; unfold lookR; rw [ht]; rfl)) rfl
        · have hn : ffind (s ++ 46 :: name) L = none := by simpa using h4
          try refine e_fl ?_
          refine e_plain (w_mv rfl rfl rfl rfl rfl (w_op rfl rfl rfl (s_call rfl (by kernel_rfl) (outer_ef gls s (by omega)) ⟨(kn rfl), trivial⟩) (w_mv rfl rfl rfl rfl rfl (w_op rfl rfl rfl (s_extract rfl (kn rfl) rfl) (w_op rfl rfl rfl (s_extract rfl (kn rfl) rfl) (w_as rfl rfl rfl rfl rfl (w_as rfl rfl rfl rfl rfl .nil))))))) ?_
          try refine e_fl ?_
          refine e_again ⟨(outM s, !decide (s = [])), by dsimp only; omega, hnext hn⟩ hmu (fun K => e_sub ⟨s_t, s_t, s_t, s_t, s_t, s_t, trivial⟩ ⟨s_b, trivial⟩ trivial)
    · subst hi
      have hr : lookUp L name scope = ffind name L := by rw [hlk]; rfl
      try refine e_fl ?_
      refine e_list ?_
      refine l_mv ?_
      refine l_mv ?_
      refine l_op (s_call rfl (by kernel_rfl) (find_ef gls L hL name) ⟨(kn rfl), ⟨(kn rfl), trivial⟩⟩) ?_
      refine l_ex ?_
      refine l_ex ?_
      refine e_storew rfl rfl rfl (kn rfl) rfl (kn rfl) rfl rfl sz_39 ?_
      refine l_as ?_
      refine e_nil ?_
      try refine e_fl ?_
      exact e_return rfl rfl (.cell rfl rfl rfl agg_39 sz_39 rfl (.tmp (kn rfl) (.nil))) (Imp.of_eq (by rw [hr]; rfl)) rfl
end Go.Proofs.YtekeanikgcpijaaDoor
namespace Go.Proofs.YtekeanikgcpijaaDoor
open Go.RowKit
def tCs (ts : List Dat) (n : Nat) : List IV := bcs ts ++ [.is (.int .i64 (n : Int)), .own 1001, .own 1002]
abbrev tB (L : List Ty) : BL := [(1000, ⟨58, tCs (tds L) L.length⟩)]
abbrev rP (ps : List (List UInt8 × Dat)) : Rw := ⟨1000000, 1, ps.length, mds kS ps, false⟩
abbrev rI (ps : List (Int × Dat)) : Rw := ⟨1000001, 1, ps.length, mds kI ps, false⟩
abbrev tRw (L : List Ty) : RL := [(1001, rP (plc L)), (1002, rI (lens L))]
theorem tCs_get {ts : List Dat} (h : ts.length = 200) (n k : Nat) : (tCs ts n)[200 + k]? = [IV.is (.int .i64 (n : Int)), .own 1001, .own 1002][k]? := by
  unfold tCs
  rw [List.getElem?_append_right (by simp [h]), List.length_map, h, Nat.add_sub_cancel_left]
theorem tCs_len {ts : List Dat} (h : ts.length = 200) (n : Nat) : (tCs ts n).length = 203 := by
  unfold tCs
  rw [List.length_append, List.length_map, h]
  rfl
theorem tCs_set {ts : List Dat} (h : ts.length = 200) (n m : Nat) : (tCs ts n).set 200 (.is (.int .i64 (m : Int))) = tCs ts m := by
  unfold tCs
  rw [List.set_append, if_neg (by rw [List.length_map, h]; omega), List.length_map, h]
  rfl
theorem tCs_inc {ts : List Dat} (h : ts.length = 200) (n : Nat) : (tCs ts n).set (0 + 200) (.is (.int .i64 ((n : Int) + 1))) = tCs ts (n + 1) := tCs_set h n (n + 1)
abbrev numT (L : List Ty) (x : Ty) : Ty := ⟨x.full, x.en, cnt x.en L, x.line, x.col⟩
theorem tds_split {L : List Ty} (h : L.length < 40) : ∃ r, r.length = (39 - L.length) * 5 ∧ ∀ x : Ty, tds (L ++ [x]) = L.flatMap Ty.dats ++ (x.dats ++ r) ∧ tds L = L.flatMap Ty.dats ++ (ty0.dats ++ r) := by
  refine ⟨(List.replicate (39 - L.length) ty0).flatMap Ty.dats, by rw [flat_len Ty.dats_len, List.length_replicate], fun x => ⟨?_, ?_⟩⟩
  · unfold tds pad
    rw [List.length_append, List.length_singleton, show 40 - (L.length + 1) = 39 - L.length by omega, List.flatMap_append, List.flatMap_append, List.append_assoc]
    congr 1
  · unfold tds pad
    rw [show 40 - L.length = (39 - L.length) + 1 by omega, List.replicate_succ, List.flatMap_append, List.flatMap_cons]
theorem tCs_store {L : List Ty} (h : L.length < 40) (x : Ty) (n : Nat) : (tCs (tds L) n).take (L.length * 5) ++ x.dats.map (fun d => IV.part (.one d)) ++ (tCs (tds L) n).drop (L.length * 5 + x.dats.length) = tCs (tds (L ++ [x])) n := by
  obtain ⟨r, hr, hx⟩ := tds_split h
  obtain ⟨h1, h2⟩ := hx x
  have hl : (L.flatMap Ty.dats).length = L.length * 5 := flat_len Ty.dats_len L
  unfold tCs
  rw [h1, h2]
  unfold bcs
  simp only [List.map_append, List.append_assoc]
  have hm : ((L.flatMap Ty.dats).map fun d => IV.part (.one d)).length = L.length * 5 := by rw [List.length_map, hl]
  rw [← hm, List.take_left]
  congr 1
  congr 1
  rw [← List.drop_drop, List.drop_left, Ty.dats_len]
  rw [List.drop_append, List.length_map, Ty.dats_len, Nat.sub_self, List.drop_zero, List.drop_eq_nil_of_le (by rw [List.length_map, Ty.dats_len]; omega), List.nil_append]
theorem shows_cons {R : RL} {x : IV} {d : Dat} {l : List IV} {ds : List Dat} (h1 : shD R x = some d) (h2 : shows R l = some ds) : shows R (x :: l) = some (d :: ds) := by
  unfold shows
  rw [h1, h2]
theorem tab_shows {R : RL} {L : List Ty} (h1 : lk 1001 R = some (rP (plc L))) (h2 : lk 1002 R = some (rI (lens L))) : shows R (tCs (tds L) L.length) = some (tabC L) := by
  unfold tCs tabC
  exact shows_append (shows_data _) (shows_cons rfl (shows_cons (by show (lk 1001 R).map datOf = _; rw [h1]; rfl) (shows_cons (by show (lk 1002 R).map datOf = _; rw [h2]; rfl) rfl)))
theorem tCs_bin (ts : List Dat) (n : Nat) : ((tCs ts n).all fun y => y.bin [1000] [1001, 1002]) = true := by
  unfold tCs
  rw [List.all_append]
  have : (bcs ts).all (fun y => y.bin [1000] [1001, 1002]) = true := by
    rw [List.all_eq_true]
    intro y hy
    obtain ⟨d, _, rfl⟩ := List.mem_map.1 hy
    rfl
  rw [this]
  rfl
theorem tB_tidy (L M : List Ty) (p : Part) : Tidy (tB L) (tRw L) (.part p) (tB M) (tRw M) := by
  refine ⟨rfl, rfl, ?_, rfl⟩
  show ((tCs (tds M) M.length).all fun y => y.bin [1000] [1001, 1002]) && true = true
  rw [tCs_bin]
  rfl
theorem tCs_nob (b : Nat) (ts : List Dat) (n : Nat) : ((tCs ts n).all fun y => y.nob b) = true := by
  unfold tCs
  rw [List.all_append]
  have : (bcs ts).all (fun y => y.nob b) = true := by
    rw [List.all_eq_true]
    intro y hy
    obtain ⟨d, _, rfl⟩ := List.mem_map.1 hy
    rfl
  rw [this]
  rfl
theorem tB_nob (b : Nat) (L : List Ty) : nobB b (tB L) = true := by
  show ((tCs (tds L) L.length).all fun y => y.nob b) && true = true
  rw [tCs_nob]
  rfl
theorem nob_and {b c : Nat} {x : Bx} {B : BL} (h1 : (x.cs.all fun y => y.nob b) = true) (h2 : nobB b B = true) : nobB b ((c, x) :: B) = true := by
  show ((x.cs.all fun y => y.nob b) && nobB b B) = true
  rw [h1, h2]
  rfl
abbrev gS (ED EL : Er) : List (Nat × List Value) := [(1, [eV ED]), (0, [eV EL])]
def errT (ED EL : Er) (k : Nat) : Er := if k = 1 then ED else EL
def TbY (ED EL : Er) (L : List Ty) (r : Except (Nat × Int × Int) (List Ty)) (y : IV) (B1 : BL) (R1 : RL) : Prop :=
  (∃ M, r = .ok M ∧ y = .part nilP ∧ B1 = tB M ∧ R1 = tRw M) ∨ ∃ k l c M, r = .error (k, l, c) ∧ y = .part (.one (sfD l c (errT ED EL k))) ∧ B1 = tB M ∧ R1 = tRw M
theorem TbY.tidy {ED EL : Er} {L : List Ty} {r : Except (Nat × Int × Int) (List Ty)} (y : IV) (B1 : BL) (R1 : RL) (h : TbY ED EL L r y B1 R1) : Tidy (tB L) (tRw L) y B1 R1 := by
  rcases h with ⟨M, _, rfl, rfl, rfl⟩ | ⟨k, l, c, M, _, rfl, rfl, rfl⟩ <;> exact tB_tidy _ _ _
set_option maxRecDepth 100000 in
theorem add_g (ED EL : Er) (L : List Ty) (hL : TbOk L) (x : Ty) (hx : x.full.length ≤ 140737488351232) : EG Tryd.prog (gS ED EL) 22 [.box 1000 0, .part (tyP x)] (tB L) (tRw L) (TbY ED EL L (addT L x)) := by
  have h40 := hL.2
  have htl := tds_len h40
  refine eg_enter 69 Tryd.func22 rfl rfl rfl fun w D bor mb => ?_
  try refine e_fl ?_
  refine e_list ?_
  refine e_box 3 rfl rfl rfl rfl (kn rfl) rfl rfl rfl (tB_nob 3 L) ?_
  refine l_as ?_
  refine e_nil ?_
  try refine e_fl ?_
  refine e_list ?_
  refine l_mv ?_
  refine l_op (s_faddr_box rfl (kn rfl) off_39_0) ?_
  refine l_op (s_load1_box rfl (kn rfl) rfl rfl one_9) ?_
  refine l_op (s_show (ps := [sP x.full]) rfl (by kernel_rfl) (find_ef _ L hL x.full) (kn rfl) rfl (tab_shows rfl rfl) ⟨kn rfl, trivial⟩ (Far.many1 ((ffind x.full L).getD ty0).vals (.bool (ffind x.full L).isSome))) ?_
  refine l_mv ?_
  refine l_ex ?_
  refine l_ex ?_
  refine e_alloc 5 [.is (.string ⟨#[]⟩), .is (.bool false), .is (.int .i64 0), .is (.int .i64 0), .is (.int .i64 0)] rfl rfl rfl rfl zr_39 (fun w D M V => ⟨rfl, fun j x v h1 h2 => cfit_is _ h1 h2 rfl⟩) rfl rfl (nob_and rfl (tB_nob 5 L)) rfl ?_
  refine e_storew rfl rfl rfl (kn rfl) rfl (kn rfl) rfl rfl sz_39 ?_
  refine l_as ?_
  refine e_nil ?_
  try refine e_fl ?_
  refine e_plain (w_mv rfl rfl rfl rfl rfl .nil) ?_
  try refine e_fl ?_
  refine e_cond rfl (fun h => ?_) (fun h => ?_)
  · have hr : addT L x = .error (1, x.line, x.col) := by
      unfold addT
      rw [if_pos h]
    rw [hr]
    try refine e_fl ?_
    refine e_plain (w_op rfl rfl rfl (s_loadn_box (ds := [_, _, _, _, _]) 5 rfl (kn rfl) rfl rfl agg_39 sz_39 rfl) (w_op rfl rfl rfl (s_load_gl rfl (kn rfl) (List.mem_cons_self) one_30) (w_op rfl rfl rfl (s_call rfl (by kernel_rfl) (sfault_ef _ x ED) ⟨(kn rfl), ⟨(kn rfl), trivial⟩⟩) (w_as rfl rfl rfl rfl rfl .nil)))) ?_
    try refine e_fl ?_
    exact e_returnx (tB L) (tRw L) rfl (.tmp (kn rfl) (.nil)) (Imp.refl _) ⟨s_b, trivial⟩ ⟨rfl, rfl, trivial⟩ (.inr ⟨1, x.line, x.col, L, rfl, rfl, rfl, rfl⟩)
  · have hn : ¬ (ffind x.full L).isSome = true := by rw [h]; decide
    try refine e_fl ?_
    refine e_plain (w_mv rfl rfl rfl rfl rfl (w_op rfl rfl rfl (s_nil_box rfl (kn rfl)) (w_op rfl rfl rfl (s_faddr_box rfl (kn rfl) off_58_1) (w_op rfl rfl rfl (s_load1_box rfl (kn rfl) rfl (tCs_get htl _ 0) one_3) (w_op rfl rfl rfl (s_bin rfl (kn rfl) (kn rfl) v_eql) .nil))))) ?_
    try refine e_fl ?_
    refine e_cond rfl (fun h4 => ?_) (fun h4 => ?_)
    · have h4' : L.length = 40 := by have := of_decide_eq_true h4; omega
      have hr : addT L x = .error (2, x.line, x.col) := by
        unfold addT
        rw [if_neg hn, if_pos h4']
      rw [hr]
      try refine e_fl ?_
      refine e_plain (w_op rfl rfl rfl (s_loadn_box (ds := [_, _, _, _, _]) 5 rfl (kn rfl) rfl rfl agg_39 sz_39 rfl) (w_op rfl rfl rfl (s_load_gl rfl (kn rfl) (List.mem_cons_of_mem _ (List.mem_singleton.2 rfl)) one_30) (w_op rfl rfl rfl (s_call rfl (by kernel_rfl) (sfault_ef _ x EL) ⟨(kn rfl), ⟨(kn rfl), trivial⟩⟩) (w_as rfl rfl rfl rfl rfl .nil)))) ?_
      try refine e_fl ?_
      exact e_returnx (tB L) (tRw L) rfl (.tmp (kn rfl) (.nil)) (Imp.refl _) ⟨s_b, trivial⟩ ⟨rfl, rfl, trivial⟩ (.inr ⟨2, x.line, x.col, L, rfl, rfl, rfl, rfl⟩)
    · have h4' : ¬ L.length = 40 := by have := of_decide_eq_false h4; omega
      have hlt : L.length < 40 := by omega
      have hr : addT L x = .ok (L ++ [numT L x]) := by
        unfold addT
        rw [if_neg hn, if_neg h4']
      rw [hr]
      have hnl := nmsT_len x.en L
      have hal : (L ++ [numT L x]).length = L.length + 1 := by simp
      have htl' : (tds (L ++ [numT L x])).length = 200 := tds_len (by rw [hal]; omega)
      have hst := tCs_store hlt (numT L x) L.length
      have hps := plc_snoc L (numT L x)
      have hls := lens_snoc L (numT L x)
      try refine e_fl ?_
      refine e_list ?_
      refine l_op (s_faddr_box rfl (kn rfl) off_39_0) ?_
      refine l_op (s_load1_box rfl (kn rfl) rfl rfl one_9) ?_
      refine l_op (s_call rfl (by kernel_rfl) (clone_ef _ x.full hx) ⟨(kn rfl), trivial⟩) ?_
      refine l_op (s_faddr_box rfl (kn rfl) off_39_0) ?_
      refine e_store1 rfl rfl rfl (kn rfl) rfl (kn rfl) rfl rfl sz_9 rfl ?_
      refine e_nil ?_
      try refine e_fl ?_
      refine e_list ?_
      refine l_mv ?_
      refine l_op (s_faddr_box rfl (kn rfl) off_39_1) ?_
      refine l_op (s_load1_box rfl (kn rfl) rfl rfl one_4) ?_
      refine l_op (s_show (ps := [bP x.en]) rfl (by kernel_rfl) (names_ef _ L hL x.en) (kn rfl) rfl (tab_shows rfl rfl) ⟨kn rfl, trivial⟩ (Far.row 1001 1 _ _)) ?_
      refine l_op (s_len_via rfl (kn rfl) sle_45) ?_
      refine l_op (s_faddr_box rfl (kn rfl) off_39_2) ?_
      refine e_store1 rfl rfl rfl (kn rfl) rfl (kn rfl) rfl rfl sz_3 rfl ?_
      refine e_nil ?_
      try refine e_fl ?_
      rw [hnl]
      refine e_draw_tail 9 mixed (by kernel_rfl) (w_mv rfl rfl rfl rfl rfl (w_mv rfl rfl rfl rfl rfl (w_op rfl rfl rfl (s_nil_box rfl (kn rfl)) (w_op rfl rfl rfl (s_faddr_box rfl (kn rfl) off_58_1) (w_op rfl rfl rfl (s_load1_box rfl (kn rfl) rfl (tCs_get htl _ 0) one_3) (w_op rfl rfl rfl (s_loadn_box (ds := [_, _, _, _, _]) 5 rfl (kn rfl) rfl rfl agg_39 sz_39 rfl) (w_op rfl rfl rfl (s_nil_box rfl (kn rfl)) (w_op rfl rfl rfl (s_faddr_box rfl (kn rfl) off_58_0) (w_op rfl rfl rfl (s_iaddr_box (z := (L.length : Int)) rfl (kn rfl) (kn rfl) (by rw [arrN]; omega) arrT arrE) .nil))))))))) ?_
      refine e_storen rfl rfl rfl (kn rfl) rfl (kn rfl) rfl (by rw [tCs_len htl]; exact Nat.ble_eq_true_of_le (by show 0 + 0 + L.length * 5 + 5 ≤ 203; omega)) sz_39 (is := tCs (tds (L ++ [numT L x])) L.length) (by rw [show 0 + 0 + (L.length : Int).toNat * 5 = L.length * 5 by omega]; exact hst) ?_
      refine e_nil ?_
      try refine e_fl ?_
      refine e_draw_tail 10 mixed (by kernel_rfl) (w_mv rfl rfl rfl rfl rfl (w_op rfl rfl rfl (s_nil_box rfl (kn rfl)) (w_op rfl rfl rfl (s_faddr_box rfl (kn rfl) off_58_2) (w_op rfl rfl rfl (s_load1_box rfl (kn rfl) rfl (tCs_get htl' _ 1) one_54) (w_op rfl rfl rfl (s_faddr_box rfl (kn rfl) off_39_0) (w_op rfl rfl rfl (s_load1_box rfl (kn rfl) rfl rfl one_9) (w_mv rfl rfl rfl rfl rfl (w_op rfl rfl rfl (s_nil_box rfl (kn rfl)) (w_op rfl rfl rfl (s_faddr_box rfl (kn rfl) off_58_1) (w_op rfl rfl rfl (s_load1_box rfl (kn rfl) rfl (tCs_get htl' _ 0) one_3) .nil)))))))))) ?_
      refine e_mset (c := x.full) (kf := kS) rfl rfl rfl (kn rfl) rfl (kn rfl) (kn rfl) kfS mapS ?_ rfl
      refine e_nil ?_
      try refine e_fl ?_
      refine e_draw_tail 7 mixed (by kernel_rfl) (w_mv rfl rfl rfl rfl rfl (w_op rfl rfl rfl (s_nil_box rfl (kn rfl)) (w_op rfl rfl rfl (s_faddr_box rfl (kn rfl) off_58_3) (w_op rfl rfl rfl (s_load1_box rfl (kn rfl) rfl (tCs_get htl' _ 2) one_55) (w_op rfl rfl rfl (s_faddr_box rfl (kn rfl) off_39_0) (w_op rfl rfl rfl (s_load1_box rfl (kn rfl) rfl rfl one_9) (w_op rfl rfl rfl (s_slen rfl (kn rfl) str_9) .nil))))))) ?_
      refine e_mset (c := (x.full.length : Int)) (kf := kI) rfl rfl rfl (kn rfl) rfl (kn rfl) (kn rfl) kfI mapI ?_ rfl
      refine e_nil ?_
      try refine e_fl ?_
      refine e_list ?_
      refine l_mv ?_
      refine l_op (s_nil_box rfl (kn rfl)) ?_
      refine l_op (s_faddr_box rfl (kn rfl) off_58_1) ?_
      refine l_op (s_load1_box rfl (kn rfl) rfl (tCs_get htl' _ 0) one_3) ?_
      refine l_op (s_bin rfl (kn rfl) (kn rfl) (v_add64 (by first | omega | (dsimp only; omega) | omega))) ?_
      refine l_op (s_nil_box rfl (kn rfl)) ?_
      refine l_op (s_faddr_box rfl (kn rfl) off_58_1) ?_
      refine e_store1 rfl rfl rfl (kn rfl) rfl (kn rfl) rfl (by rw [tCs_len htl']; rfl) sz_3 (is := tCs (tds (L ++ [numT L x])) (L.length + 1)) (tCs_inc htl' L.length) ?_
      refine e_nil ?_
      try refine e_fl ?_
      refine e_plain (w_as rfl rfl rfl rfl rfl .nil) ?_
      try refine e_fl ?_
      exact e_returnx (tB (L ++ [numT L x])) (tRw (L ++ [numT L x])) rfl (.tmp (kn rfl) (.nil)) (Imp.refl _) ⟨sb_refl _ (by rw [hal]; rfl), trivial⟩ ⟨by rw [hps]; rfl, by rw [hls]; rfl, trivial⟩ (.inl ⟨_, rfl, rfl, rfl, rfl⟩)
end Go.Proofs.YtekeanikgcpijaaDoor
namespace Go.Proofs.YtekeanikgcpijaaDoor
open Go.RowKit
theorem tyM_md (ahead : List UInt8) (x : Msg) : tyM ahead x = ⟨ahead ++ x.name, false, 0, x.line, x.col⟩ :: tyAll (ahead ++ x.name ++ [46]) x.enums x.msgs := by
  cases x
  rfl
theorem MOk.all {N d : Nat} {x : Msg} (h : MOk N (d + 1) x) : NmOk N x.name ∧ (∀ y ∈ x.enums, NmOk N y.name) ∧ ∀ k ∈ x.msgs, MOk N d k := by
  cases x
  exact h
theorem addAllT_cons (L : List Ty) (x : Ty) (xs : List Ty) : addAllT L (x :: xs) = match addT L x with | .error e => .error e | .ok M => addAllT M xs := rfl
theorem drop_cons {α : Type} {l : List α} {i : Nat} {x : α} (h : l[i]? = some x) : l.drop i = x :: l.drop (i + 1) := by
  obtain ⟨h1, h2⟩ := List.getElem?_eq_some_iff.1 h
  rw [List.drop_eq_getElem_cons h1, h2]
set_option maxRecDepth 100000 in
set_option maxHeartbeats 4000000 in
theorem addAll_step (ED EL : Er) (N : Nat) (hN : N ≤ 1000000) (d s : Nat)
    (ahead : List UInt8) (e : List Enm) (m : List Msg) (ih : ∀ x ∈ m, ∀ (ahead' : List UInt8) (L' : List Ty), TbOk L' → ahead'.length + s * (N + 2) ≤ 1000000000000 → EG Tryd.prog (gS ED EL) 15 [.box 1000 0, .part (sP ahead'), .part (.one (.row 4 x.enums.length (x.enums.flatMap Enm.dats))), .part (.one (.row 9 x.msgs.length (x.msgs.flatMap Msg.dats)))] (tB L') (tRw L') (TbY ED EL L' (addAllT L' (tyAll ahead' x.enums x.msgs))))
    (L : List Ty) (hL : TbOk L) (hel : e.length ≤ 100000000000) (hml : m.length ≤ 100000000000) (he : ∀ x ∈ e, NmOk N x.name) (hm : ∀ k ∈ m, MOk N (d + 1) k ∧ k.fine) (ha : ahead.length + (s + 1) * (N + 2) ≤ 1000000000000) :
    EG Tryd.prog (gS ED EL) 15 [.box 1000 0, .part (sP ahead), .part (.one (.row 4 e.length (e.flatMap Enm.dats))), .part (.one (.row 9 m.length (m.flatMap Msg.dats)))] (tB L) (tRw L) (TbY ED EL L (addAllT L (tyAll ahead e m))) := by
  have ha' : ahead.length + s * (N + 2) + (N + 2) ≤ 1000000000000 := by rw [Nat.succ_mul] at ha; omega
  refine eg_enter 72 Tryd.func15 rfl rfl rfl fun w D bor mb => ?_
  try refine e_fl ?_
  refine e_plain (w_as rfl rfl rfl rfl rfl .nil) ?_
  try refine e_fl ?_
  refine e_plain (w_mv rfl rfl rfl rfl rfl (w_op rfl rfl rfl (s_len rfl (kn rfl) sle_26) (w_mv rfl rfl rfl rfl rfl .nil))) ?_
  try refine e_fl ?_
  refine e_loop (ι := { i : Nat × List Ty // i.1 ≤ e.length ∧ TbOk i.2 ∧ addAllT L (tyAll ahead e m) = addAllT i.2 ((e.drop i.1).map (tyE ahead) ++ tyMs ahead m) })
    (fun i => [(0, .box 1000 0), (1, .part (sP ahead)), (3, .part (.one (.row 9 m.length (m.flatMap Msg.dats)))), (17, .part (.one (.row 4 e.length (e.flatMap Enm.dats)))), (18, .is (.int .i64 (e.length : Int))), (19, .is (.int .i64 (i.1.1 : Int)))])
    (fun i => tB i.1.2) (fun i => tRw i.1.2) (fun i => e.length - i.1.1)
    ⟨(0, L), by dsimp only; omega, hL, rfl⟩
    (fun K => e_sub ⟨s_t, s_t, s_t, s_t, s_t, s_t, trivial⟩ ⟨s_b, trivial⟩ ⟨rfl, rfl, trivial⟩) ?_
  · rintro ⟨⟨i, M⟩, hi, hM, hinv⟩
    dsimp only at hi hM hinv ⊢
    try refine e_fl ?_
    refine e_plain (w_op rfl rfl rfl (s_bin rfl (kn rfl) (kn rfl) v_lss) .nil) ?_
    try refine e_fl ?_
    refine e_cond rfl (fun h => ?_) (fun h => ?_)
    · have hlt : i < e.length := by have := of_decide_eq_true h; omega
      obtain ⟨x, hx⟩ : ∃ x, e[i]? = some x := ⟨_, List.getElem?_eq_getElem hlt⟩
      obtain ⟨hx1, hx2, hx3⟩ := he x (List.mem_of_getElem? hx)
      rw [drop_cons hx, List.map_cons, List.cons_append, addAllT_cons] at hinv
      have hfl : (tyE ahead x).full.length ≤ 140737488351232 := by
        show (ahead ++ x.name).length ≤ _
        rw [List.length_append]
        omega
      try refine e_fl ?_
      refine e_list ?_
      refine l_op (s_index rfl (kn rfl) (kn rfl) (by omega) hx Enm.dats_len sle_26 esz_26 rfl) ?_
      refine l_op (s_loadn_ref rfl (kn rfl) agg_77 sz_77) ?_
      refine e_alloc 10 [.is (.string ⟨#[]⟩), .is (.slice none 0 0), .is (.int .i64 0), .is (.int .i64 0)] rfl rfl rfl rfl zr_77 (fun w D M V => ⟨rfl, fun j x v h1 h2 => cfit_is _ h1 h2 rfl⟩) rfl rfl (tB_nob 10 M) rfl ?_
      refine e_storew rfl rfl rfl (kn rfl) rfl (kn rfl) rfl rfl sz_77 ?_
      refine e_nil ?_
      try refine e_fl ?_
      refine e_list ?_
      refine l_mv ?_
      refine l_mv ?_
      refine l_op (s_faddr_box rfl (kn rfl) off_77_0) ?_
      refine l_op (s_load1_box rfl (kn rfl) rfl rfl one_9) ?_
      refine l_op (s_bin rfl (kn rfl) (kn rfl) (v_sadd (by first | omega | (simp only [List.length_append, List.length_cons, List.length_nil]; omega)))) ?_
      refine l_op (s_faddr_box rfl (kn rfl) off_77_2) ?_
      refine l_op (s_load1_box rfl (kn rfl) rfl rfl one_3) ?_
      refine l_op (s_faddr_box rfl (kn rfl) off_77_3) ?_
      refine l_op (s_load1_box rfl (kn rfl) rfl rfl one_3) ?_
      refine l_op (s_build (ds := [_, _, _, _, _]) [(0, _), (1, _), (3, _), (4, _)] rfl ⟨rfl, (kn rfl), ⟨rfl, (kn rfl), ⟨rfl, (kn rfl), ⟨rfl, (kn rfl), trivial⟩⟩⟩⟩ rfl pl_39 zr_39 (fun w D => .cons (.cell _) (.cons (.cell _) (.cons (.cell _) (.cons (.cell _) (.cons (.cell _) (.nil _ _)))))) rfl) ?_
      refine e_calli rfl rfl rfl rfl (by kernel_rfl) (add_g ED EL M hM (tyE ahead x) hfl) ⟨rfl, trivial⟩ ⟨rfl, rfl, trivial⟩ ⟨(kn rfl), ⟨(kn rfl), trivial⟩⟩ (TbY.tidy) ?_
      rintro _ _ _ (⟨M', hr, rfl, rfl, rfl⟩ | ⟨k, li, co, M', hr, rfl, rfl, rfl⟩)
      · rw [hr] at hinv
        refine l_as ?_
        refine e_nil ?_
        try refine e_fl ?_
        refine e_plain (w_mv rfl rfl rfl rfl rfl (w_op rfl rfl rfl (s_nil_neq rfl (kn rfl) ifc_30) .nil)) ?_
        try refine e_fl ?_
        refine c_no ?_
        try refine e_fl ?_
        refine e_plain (w_op rfl rfl rfl (s_bin rfl (kn rfl) (kn rfl) (v_add64 (by first | omega | (dsimp only; omega) | omega))) (w_mv rfl rfl rfl rfl rfl .nil)) ?_
        try refine e_fl ?_
        refine e_again ⟨(i + 1, M'), by dsimp only; omega, (addT_ok hM hr).1, hinv⟩ (by dsimp only; omega) (fun K => e_sub ⟨s_t, s_t, s_t, s_t, s_t, s_t, trivial⟩ ⟨s_b, trivial⟩ ⟨rfl, rfl, trivial⟩)
      · rw [hr] at hinv
        rw [hinv]
        refine l_as ?_
        refine e_nil ?_
        try refine e_fl ?_
        refine e_plain (w_mv rfl rfl rfl rfl rfl (w_op rfl rfl rfl (s_err_neq rfl (kn rfl) rfl ifc_30) .nil)) ?_
        try refine e_fl ?_
        refine c_yes ?_
        try refine e_fl ?_
        refine e_plain (w_mv rfl rfl rfl rfl rfl (w_as rfl rfl rfl rfl rfl .nil)) ?_
        try refine e_fl ?_
        exact e_returnx (tB M') (tRw M') rfl (.tmp (kn rfl) (.nil)) (Imp.refl _) ⟨s_b, trivial⟩ ⟨rfl, rfl, trivial⟩ (.inr ⟨k, li, co, M', rfl, rfl, rfl, rfl⟩)
    · obtain rfl : i = e.length := by have := of_decide_eq_false h; omega
      rw [List.drop_length, List.map_nil, List.nil_append] at hinv
      try refine e_fl ?_
      refine e_plain (w_mv rfl rfl rfl rfl rfl (w_op rfl rfl rfl (s_len rfl (kn rfl) sle_25) (w_mv rfl rfl rfl rfl rfl .nil))) ?_
      try refine e_fl ?_
      refine e_loop (ι := { i : Nat × List Ty // i.1 ≤ m.length ∧ TbOk i.2 ∧ addAllT L (tyAll ahead e m) = addAllT i.2 (tyMs ahead (m.drop i.1)) })
        (fun i => [(0, .box 1000 0), (1, .part (sP ahead)), (38, .part (.one (.row 9 m.length (m.flatMap Msg.dats)))), (39, .is (.int .i64 (m.length : Int))), (40, .is (.int .i64 (i.1.1 : Int)))])
        (fun i => tB i.1.2) (fun i => tRw i.1.2) (fun i => m.length - i.1.1)
        ⟨(0, M), by dsimp only; omega, hM, hinv⟩
        (fun K => e_sub ⟨s_t, s_t, s_t, s_t, s_t, trivial⟩ ⟨s_b, trivial⟩ ⟨rfl, rfl, trivial⟩) ?_
      clear hinv hM hi h M
      rintro ⟨⟨i, M⟩, hi, hM, hinv⟩
      dsimp only at hi hM hinv ⊢
      try refine e_fl ?_
      refine e_plain (w_op rfl rfl rfl (s_bin rfl (kn rfl) (kn rfl) v_lss) .nil) ?_
      try refine e_fl ?_
      refine e_cond rfl (fun h => ?_) (fun h => ?_)
      · have hlt : i < m.length := by have := of_decide_eq_true h; omega
        obtain ⟨x, hx⟩ : ∃ x, m[i]? = some x := ⟨_, List.getElem?_eq_getElem hlt⟩
        obtain ⟨hxo, hxf⟩ := hm x (List.mem_of_getElem? hx)
        obtain ⟨⟨hx1, hx2, hx3⟩, hxe, hxm⟩ := hxo.all
        obtain ⟨f1, f2, f3, f4, f5, f6, f7, f8⟩ := (Msg.fine_iff x).1 hxf
        rw [drop_cons hx, tyMs, tyM_md, List.cons_append, addAllT_cons] at hinv
        have hfl : (⟨ahead ++ x.name, false, 0, x.line, x.col⟩ : Ty).full.length ≤ 140737488351232 := by
          show (ahead ++ x.name).length ≤ _
          rw [List.length_append]
          omega
        have hal : (ahead ++ x.name ++ [46]).length + s * (N + 2) ≤ 1000000000000 := by
          rw [List.length_append, List.length_append, List.length_singleton]
          omega
        try refine e_fl ?_
        refine e_list ?_
        refine l_op (s_index rfl (kn rfl) (kn rfl) (by omega) hx Msg.dats_len sle_25 esz_25 (dats_md x)) ?_
        refine l_op (s_loadn_ref rfl (kn rfl) agg_48 sz_48) ?_
        refine e_alloc 13 [.is (.string ⟨#[]⟩), .is (.slice none 0 0), .is (.slice none 0 0), .is (.slice none 0 0), .is (.slice none 0 0), .is (.slice none 0 0), .is (.slice none 0 0), .is (.int .i64 0), .is (.int .i64 0)] rfl rfl rfl rfl zr_48 (fun w D M V => ⟨rfl, fun j x v h1 h2 => cfit_is _ h1 h2 rfl⟩) rfl rfl (tB_nob 13 M) rfl ?_
        refine e_storew rfl rfl rfl (kn rfl) rfl (kn rfl) rfl rfl sz_48 ?_
        refine e_nil ?_
        try refine e_fl ?_
        refine e_list ?_
        refine l_mv ?_
        refine l_op (s_faddr_box rfl (kn rfl) off_48_0) ?_
        refine l_op (s_load1_box rfl (kn rfl) rfl rfl one_9) ?_
        refine l_op (s_bin rfl (kn rfl) (kn rfl) (v_sadd (by first | omega | (simp only [List.length_append, List.length_cons, List.length_nil]; omega)))) ?_
        refine l_op (s_faddr_box rfl (kn rfl) off_48_7) ?_
        refine l_op (s_load1_box rfl (kn rfl) rfl rfl one_3) ?_
        refine l_op (s_faddr_box rfl (kn rfl) off_48_8) ?_
        refine l_op (s_load1_box rfl (kn rfl) rfl rfl one_3) ?_
        refine l_op (s_build (ds := [_, _, _, _, _]) [(0, _), (3, _), (4, _)] rfl ⟨rfl, (kn rfl), ⟨rfl, (kn rfl), ⟨rfl, (kn rfl), trivial⟩⟩⟩ rfl pl_39 zr_39 (fun w D => .cons (.cell _) (.cons (.cell _) (.cons (.cell _) (.cons (.cell _) (.cons (.cell _) (.nil _ _)))))) rfl) ?_
        refine e_alloc 14 [.is (.string ⟨#[]⟩), .is (.bool false), .is (.int .i64 0), .is (.int .i64 0), .is (.int .i64 0)] rfl rfl rfl rfl zr_39 (fun w D M V => ⟨rfl, fun j x v h1 h2 => cfit_is _ h1 h2 rfl⟩) rfl rfl (nob_and rfl (nob_and rfl (tB_nob 14 M))) rfl ?_
        refine e_storew rfl rfl rfl (kn rfl) rfl (kn rfl) rfl rfl sz_39 ?_
        refine e_nil ?_
        try refine e_fl ?_
        refine e_list ?_
        refine l_mv ?_
        refine l_op (s_loadn_box (ds := [_, _, _, _, _]) 5 rfl (kn rfl) rfl rfl agg_39 sz_39 rfl) ?_
        refine e_calli rfl rfl rfl rfl (by kernel_rfl) (add_g ED EL M hM ⟨ahead ++ x.name, false, 0, x.line, x.col⟩ hfl) ⟨rfl, trivial⟩ ⟨rfl, rfl, trivial⟩ ⟨(kn rfl), ⟨(kn rfl), trivial⟩⟩ (TbY.tidy) ?_
        rintro _ _ _ (⟨M', hr, rfl, rfl, rfl⟩ | ⟨k, li, co, M', hr, rfl, rfl, rfl⟩)
        · have hM' := (addT_ok hM hr).1
          rw [hr] at hinv
          dsimp only at hinv
          rw [addAllT_append] at hinv
          refine l_as ?_
          refine e_nil ?_
          try refine e_fl ?_
          refine e_plain (w_mv rfl rfl rfl rfl rfl (w_op rfl rfl rfl (s_nil_neq rfl (kn rfl) ifc_30) .nil)) ?_
          try refine e_fl ?_
          refine c_no ?_
          try refine e_fl ?_
          refine e_list ?_
          refine l_mv ?_
          refine l_op (s_faddr_box rfl (kn rfl) off_39_0) ?_
          refine l_op (s_load1_box rfl (kn rfl) rfl rfl one_9) ?_
          refine l_op (s_bin rfl (kn rfl) (kn rfl) (v_sadd (by first | omega | (simp only [List.length_append, List.length_cons, List.length_nil]; omega)))) ?_
          refine l_op (s_faddr_box rfl (kn rfl) off_48_4) ?_
          refine l_op (s_load1_box rfl (kn rfl) rfl rfl one_26) ?_
          refine l_op (s_faddr_box rfl (kn rfl) off_48_3) ?_
          refine l_op (s_load1_box rfl (kn rfl) rfl rfl one_25) ?_
          refine e_calli rfl rfl rfl rfl (by kernel_rfl) (ih x (List.mem_of_getElem? hx) (ahead ++ x.name ++ [46]) M' hM' hal) ⟨rfl, trivial⟩ ⟨rfl, rfl, trivial⟩ ⟨(kn rfl), ⟨(kn rfl), ⟨(kn rfl), ⟨(kn rfl), trivial⟩⟩⟩⟩ (TbY.tidy) ?_
          rintro _ _ _ (⟨M2, hr2, rfl, rfl, rfl⟩ | ⟨k, li, co, M2, hr2, rfl, rfl, rfl⟩)
          · rw [hr2] at hinv
            refine l_as ?_
            refine e_nil ?_
            try refine e_fl ?_
            refine e_plain (w_mv rfl rfl rfl rfl rfl (w_op rfl rfl rfl (s_nil_neq rfl (kn rfl) ifc_30) .nil)) ?_
            try refine e_fl ?_
            refine c_no ?_
            try refine e_fl ?_
            refine e_plain (w_op rfl rfl rfl (s_bin rfl (kn rfl) (kn rfl) (v_add64 (by first | omega | (dsimp only; omega) | omega))) (w_mv rfl rfl rfl rfl rfl .nil)) ?_
            try refine e_fl ?_
            refine e_again ⟨(i + 1, M2), by dsimp only; omega, addAllT_ok hM' hr2, hinv⟩ (by dsimp only; omega) (fun K => e_sub ⟨s_t, s_t, s_t, s_t, s_t, trivial⟩ ⟨s_b, trivial⟩ ⟨rfl, rfl, trivial⟩)
          · rw [hr2] at hinv
            rw [hinv]
            refine l_as ?_
            refine e_nil ?_
            try refine e_fl ?_
            refine e_plain (w_mv rfl rfl rfl rfl rfl (w_op rfl rfl rfl (s_err_neq rfl (kn rfl) rfl ifc_30) .nil)) ?_
            try refine e_fl ?_
            refine c_yes ?_
            try refine e_fl ?_
            refine e_plain (w_mv rfl rfl rfl rfl rfl (w_as rfl rfl rfl rfl rfl .nil)) ?_
            try refine e_fl ?_
            exact e_returnx (tB M2) (tRw M2) rfl (.tmp (kn rfl) (.nil)) (Imp.refl _) ⟨s_b, trivial⟩ ⟨rfl, rfl, trivial⟩ (.inr ⟨k, li, co, M2, rfl, rfl, rfl, rfl⟩)
        · rw [hr] at hinv
          rw [hinv]
          refine l_as ?_
          refine e_nil ?_
          try refine e_fl ?_
          refine e_plain (w_mv rfl rfl rfl rfl rfl (w_op rfl rfl rfl (s_err_neq rfl (kn rfl) rfl ifc_30) .nil)) ?_
          try refine e_fl ?_
          refine c_yes ?_
          try refine e_fl ?_
          refine e_plain (w_mv rfl rfl rfl rfl rfl (w_as rfl rfl rfl rfl rfl .nil)) ?_
          try refine e_fl ?_
          exact e_returnx (tB M') (tRw M') rfl (.tmp (kn rfl) (.nil)) (Imp.refl _) ⟨s_b, trivial⟩ ⟨rfl, rfl, trivial⟩ (.inr ⟨k, li, co, M', rfl, rfl, rfl, rfl⟩)
      · obtain rfl : i = m.length := by have := of_decide_eq_false h; omega
        rw [List.drop_length] at hinv
        rw [hinv]
        try refine e_fl ?_
        refine e_plain (w_as rfl rfl rfl rfl rfl .nil) ?_
        try refine e_fl ?_
        exact e_returnx (tB M) (tRw M) rfl (.tmp (kn rfl) (.nil)) (Imp.refl _) ⟨s_b, trivial⟩ ⟨rfl, rfl, trivial⟩ (.inl ⟨M, rfl, rfl, rfl, rfl⟩)
theorem addAll_g (ED EL : Er) (N : Nat) (hN : N ≤ 1000000) : ∀ (d : Nat) (ahead : List UInt8) (e : List Enm) (m : List Msg) (L : List Ty), TbOk L → e.length ≤ 100000000000 → m.length ≤ 100000000000 → (∀ x ∈ e, NmOk N x.name) → (∀ k ∈ m, MOk N d k ∧ k.fine) → ahead.length + (d + 1) * (N + 2) ≤ 1000000000000 →
    EG Tryd.prog (gS ED EL) 15 [.box 1000 0, .part (sP ahead), .part (.one (.row 4 e.length (e.flatMap Enm.dats))), .part (.one (.row 9 m.length (m.flatMap Msg.dats)))] (tB L) (tRw L) (TbY ED EL L (addAllT L (tyAll ahead e m)))
  | 0, ahead, e, m, L, hL, hel, hml, he, hm, ha => addAll_step ED EL N hN 0 0 ahead e m (fun x hx => ((hm x hx).1 : False).elim) L hL hel hml he (fun k hk => ((hm k hk).1 : False).elim) ha
  | d + 1, ahead, e, m, L, hL, hel, hml, he, hm, ha => addAll_step ED EL N hN d (d + 1) ahead e m (fun x hx ahead' L' hL' ha' => by
      have hx' := (hm x hx).1.all
      have hf := (Msg.fine_iff x).1 (hm x hx).2
      refine addAll_g ED EL N hN d ahead' x.enums x.msgs L' hL' hf.2.2.2.1 hf.2.2.1 hx'.2.1 (fun k hk => ⟨hx'.2.2 k hk, hf.2.2.2.2.2.2.2 k hk⟩) ha') L hL hel hml he hm ha
end Go.Proofs.YtekeanikgcpijaaDoor
