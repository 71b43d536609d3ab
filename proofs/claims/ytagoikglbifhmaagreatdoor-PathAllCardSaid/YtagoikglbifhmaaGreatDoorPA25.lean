/- Part 25 of what the last text of this claim is proved by: walks over the program, and the math behind them. Conditions: as each theorem says. -/
import Derived.Test.YtagoikglbifhmaaGreatDoorPA24
import Derived.Test.YtagoikglbifhmaaGreatDoorProg
namespace Go.Proofs.YtagoikglbifhmaaGreatDoor
open Go.RowKit
def KeysGood (p : List St) : Prop := ∀ s ∈ p, s.key.Fine ∧ s.key.Tx ∧ vnodes s.key ≤ 1000000
set_option maxRecDepth 100000 in
set_option maxHeartbeats 1000000 in
theorem pof_ef (p : List St) (hl : p.length ≤ 1000000) (hp : ∀ s ∈ p, vnodes s.key ≤ 1000000) : EF Tryz.prog [] 13 [stD p] (.part (stD p)) := by
  refine ef_enter 28 Tryz.func13 rfl rfl rfl fun w D => ?_
  try refine e_fl ?_
  refine e_plain (w_as rfl rfl rfl rfl rfl .nil) ?_
  try refine e_fl ?_
  refine e_list ?_
  refine e_made 100 rfl rfl rfl rfl sl_44 ap_44 rfl rfl ?_
  refine l_as ?_
  refine e_nil ?_
  try refine e_fl ?_
  refine e_plain (w_mv rfl rfl rfl rfl rfl (w_op rfl rfl rfl (s_len rfl (kn rfl) sle_29) (w_mv rfl rfl rfl rfl rfl .nil))) ?_
  try refine e_fl ?_
  refine e_loop (ι := { k : Nat // k ≤ p.length })
    (fun k => [(3, .own 100), (7, .part (stD p)), (8, .is (.int .i64 (p.length : Int))), (9, .is (.int .i64 (k.1 : Int)))])
    (fun _ => []) (fun k => [(100, ⟨76, 10, k.1, (p.take k.1).flatMap stDats, false⟩)]) (fun k => p.length - k.1) ⟨0, by omega⟩
    (fun K => e_sub ⟨s_t, s_t, s_t, s_t, trivial⟩ trivial ⟨rfl, trivial⟩) ?_
  rintro ⟨k, hk⟩
  dsimp only at hk ⊢
  try refine e_fl ?_
  refine e_plain (w_op rfl rfl rfl (s_bin rfl (kn rfl) (kn rfl) v_lss) .nil) ?_
  try refine e_fl ?_
  refine e_cond rfl (fun h => ?_) (fun h => ?_)
  · have hlt : k < p.length := by have := of_decide_eq_true h; omega
    obtain ⟨x, hx⟩ : ∃ x, p[k]? = some x := ⟨_, List.getElem?_eq_getElem hlt⟩
    have ho := of_ef x.key (hp x (List.mem_of_getElem? hx))
    try refine e_fl ?_
    refine e_list ?_
    refine l_op (s_index rfl (kn rfl) (kn rfl) (by omega) hx stDats_len sle_29 esz_29 (stDats_sd x)) ?_
    refine l_op (s_loadn_ref rfl (kn rfl) agg_62 sz_62) ?_
    refine e_alloc 5 [.is (.int .i64 0), .is (.int .i64 0), .is (.int .i64 0), .is (.int .i64 0), .is (.int .u64 0), .is (.string ⟨#[]⟩), .is (.slice none 0 0), .is (.string ⟨#[]⟩), .is (.slice none 0 0), .is (.slice none 0 0)] rfl rfl rfl rfl zr_62 (fun w D M V => ⟨rfl, fun j x v h1 h2 => cfit_is _ h1 h2 rfl⟩) rfl rfl rfl rfl ?_
    refine e_storew rfl rfl rfl (kn rfl) rfl (kn rfl) rfl rfl sz_62 ?_
    refine e_nil ?_
    try refine e_fl ?_
    refine e_draw_tail 12 mixed (by kernel_rfl) (w_mv rfl rfl rfl rfl rfl (w_op rfl rfl rfl (s_faddr_box rfl (kn rfl) off_62_0) (w_op rfl rfl rfl (s_load1_box rfl (kn rfl) rfl rfl one_3) (w_op rfl rfl rfl (s_faddr_box rfl (kn rfl) off_62_1) (w_op rfl rfl rfl (s_load1_box rfl (kn rfl) rfl rfl one_3) (w_op rfl rfl rfl (s_faddr_box rfl (kn rfl) off_62_2) (w_op rfl rfl rfl (s_load1_box rfl (kn rfl) rfl rfl one_3) (w_op rfl rfl rfl (s_faddr_box rfl (kn rfl) off_62_3) (w_op rfl rfl rfl (s_loadn_box (ds := [_, _, _, _, _, _, _]) 7 rfl (kn rfl) rfl rfl agg_27 sz_27 rfl) (w_op rfl rfl rfl (s_call rfl (by kernel_rfl) (ho) ⟨(kn rfl), trivial⟩) (w_op rfl rfl rfl (s_build (ds := [_, _, _, _, _, _, _, _, _, _]) [(0, _), (1, _), (2, _), (3, _)] rfl ⟨rfl, (kn rfl), ⟨rfl, (kn rfl), ⟨rfl, (kn rfl), ⟨rfl, (kn rfl), trivial⟩⟩⟩⟩ rfl pl_76 zr_76 (fun w D => .cons (.cell _) (.cons (.cell _) (.cons (.cell _) (.cons (.cell _) (.cons (.cell _) (.cons (.cell _) (.cons (.cell _) (.cons (.cell _) (.cons (.cell _) (.cons (.cell _) (.nil _ _))))))))))) rfl) (w_op rfl rfl rfl (s_buildSlice (ds := [_, _, _, _, _, _, _, _, _, _]) [(0, _)] rfl ⟨rfl, (kn rfl), trivial⟩ rfl sl_44 sz_76 zr_76 (fun w D => .cons (.cell _) (.cons (.cell _) (.cons (.cell _) (.cons (.cell _) (.cons (.cell _) (.cons (.cell _) (.cons (.cell _) (.cons (.cell _) (.cons (.cell _) (.cons (.cell _) (.nil _ _))))))))))) rfl rfl rfl rfl rfl) .nil)))))))))))) ?_
    refine e_append rfl rfl rfl rfl (kn rfl) rfl (kn rfl) sl_44 ap_44 rfl rfl (by first | omega | (dsimp only; omega) | omega) (by first | omega | (dsimp only; omega) | omega) ?_
    refine l_as ?_
    refine e_nil ?_
    try refine e_fl ?_
    refine e_plain (w_op rfl rfl rfl (s_bin rfl (kn rfl) (kn rfl) (v_add64 (by first | omega | (dsimp only; omega) | omega))) (w_mv rfl rfl rfl rfl rfl .nil)) ?_
    try refine e_fl ?_
    refine e_again ⟨k + 1, by omega⟩ (by dsimp only; omega) (fun K => e_sub ⟨s_t, s_t, s_t, s_t, trivial⟩ trivial ⟨rowEq rfl rfl (by rw [take_one hx, flats_one]; rfl), trivial⟩)
  obtain rfl : k = p.length := by have := of_decide_eq_false h; omega
  try refine e_fl ?_
  refine e_plain (w_mv rfl rfl rfl rfl rfl (w_as rfl rfl rfl rfl rfl .nil)) ?_
  try refine e_fl ?_
  refine e_freeze_slot 2 100 rfl rfl rfl ?_
  exact e_return rfl rfl (.tmp (kn rfl) (.nil)) (Imp.of_eq (by rw [List.take_length]; rfl)) rfl
def rget : Vl → List St → Vl × Bool
  | v, [] => (v, !decide (v.kind = 0))
  | v, s :: p => if (sget s v).2 then (match p with | [] => ((sget s v).1, true) | _ => if (sget s v).1.kind = 0 then (vnone, false) else rget (sget s v).1 p) else (vnone, false)
theorem sget_none (s : St) : sget s vnone = (vnone, false) := by
  have h1 : vget vnone s.num = vnone := if_neg (by decide)
  have h2 : vfind vnone s.key = vnone := if_neg (by decide)
  have h3 : sidx s vnone = (vnone, false) := if_neg (fun h => absurd (show (0 : Int) = 4 from h.1) (by decide))
  have h4 : srest vnone = (vnone, false) := if_neg (by decide)
  have h5 : sspan s vnone = (vnone, false) := if_neg (fun h => absurd (show (0 : Int) = 4 from h.1) (by decide))
  unfold sget
  rw [h1, h2, h3, h4, h5]
  repeat' split
  all_goals rfl
theorem rget_none : ∀ p : List St, p ≠ [] → rget vnone p = (vnone, false)
  | [], h => absurd rfl h
  | s :: p, _ => by
    unfold rget
    rw [sget_none]
    rfl
theorem pgo_rget : ∀ (p : List St) (v : Vl) (b : Bool), Gd v → pgo (v, b) p = match p with | [] => (v, b) | _ => rget v p
  | [], _, _, _ => rfl
  | s :: p, v, b, hv => by
    obtain ⟨h1, h2⟩ := sget_gd s hv
    show pgo (sget s v) p = rget v (s :: p)
    unfold rget
    rw [show sget s v = ((sget s v).1, (sget s v).2) from rfl, pgo_rget p _ _ h1]
    cases hb : (sget s v).2
    · rw [h2 hb]
      cases p with
      | nil => rfl
      | cons t p => exact rget_none _ (by simp)
    · cases p with
      | nil => rfl
      | cons t p =>
        show rget (sget s v).1 (t :: p) = if (sget s v).1.kind = 0 then (vnone, false) else rget (sget s v).1 (t :: p)
        split
        · rename_i hk
          rw [plain_none h1.r hk]
          exact rget_none _ (by simp)
        · rfl
theorem pget_rget (v : Vl) (p : List St) (hv : Gd v) : pget v p = rget v p := by
  unfold pget
  rw [pgo_rget p v _ hv]
  cases p with
  | nil => rfl
  | cons s p => rfl
theorem rget_one {s : St} {v x : Vl} {b : Bool} {p : List St} (hx : sget s v = (x, b)) (hb : b = true) (hp : p = []) : rget v (s :: p) = (x, true) := by
  subst hb hp
  unfold rget
  rw [hx]
  rfl
theorem rget_more {s : St} {v x : Vl} {b : Bool} {p : List St} (hx : sget s v = (x, b)) (hb : b = true) (hp : p ≠ []) : rget v (s :: p) = if x.kind = 0 then (vnone, false) else rget x p := by
  subst hb
  cases p with
  | nil => exact absurd rfl hp
  | cons t p =>
    conv => lhs; unfold rget
    rw [hx]
    rfl
theorem rget_on {s : St} {v x : Vl} {b : Bool} {p : List St} (hx : sget s v = (x, b)) (hb : b = true) (hp : p ≠ []) (h : ¬ x.kind = 0) : rget v (s :: p) = rget x p := by rw [rget_more hx hb hp, if_neg h]
end Go.Proofs.YtagoikglbifhmaaGreatDoor
namespace Go.Proofs.YtagoikglbifhmaaGreatDoor
open Go.RowKit
theorem big_gd {v : Vl} (hf : v.Fine) (hb : vbig v 100 = false) (hr : vright v = true) : Gd v := ⟨hr, by
  have := (vbig_no (by decide) hb).1
  show vnodes v ≤ 1000000
  omega, hf⟩
end Go.Proofs.YtagoikglbifhmaaGreatDoor
namespace Go.Proofs.YtagoikglbifhmaaGreatDoor
open Go.RowKit
abbrev sF (n : Int) : St := ⟨1, n, 0, vnone⟩
abbrev sK (k : Vl) : St := ⟨2, 0, 0, k⟩
abbrev sI (i : Nat) : St := ⟨3, (i : Int), 0, vnone⟩
def kidsF (fs : List (Int × Vl)) : List (St × Vl) := fs.map fun f => (sF f.1, f.2)
def kidsQ (ps : List (Vl × Vl)) : List (St × Vl) := ps.map fun p => (sK p.1, p.2)
def kidsL : Nat → List Vl → List (St × Vl)
  | _, [] => []
  | i, x :: l => (sI i, x) :: kidsL (i + 1) l
def skids (v : Vl) : List (St × Vl) := kidsF v.fields ++ (kidsQ v.pairs ++ kidsL 0 v.list)
mutual
def allP : Vl → List (List St)
  | .mk k _ _ fs _ ls ps => if k = 0 then [] else [] :: (allF fs ++ (allQ ps ++ allL 0 ls))
def allF : List (Int × Vl) → List (List St)
  | [] => []
  | (n, x) :: fs => (allP x).map (sF n :: ·) ++ allF fs
def allQ : List (Vl × Vl) → List (List St)
  | [] => []
  | (k, x) :: ps => (allP x).map (sK k :: ·) ++ allQ ps
def allL : Nat → List Vl → List (List St)
  | _, [] => []
  | i, x :: ls => (allP x).map (sI i :: ·) ++ allL (i + 1) ls
end
def pref (q : St × Vl) : List (List St) := (allP q.2).map (q.1 :: ·)
theorem allF_eq : ∀ fs : List (Int × Vl), allF fs = (kidsF fs).flatMap pref
  | [] => by rw [allF]; rfl
  | (n, x) :: fs => by rw [allF, allF_eq fs]; rfl
theorem allQ_eq : ∀ ps : List (Vl × Vl), allQ ps = (kidsQ ps).flatMap pref
  | [] => by rw [allQ]; rfl
  | (n, x) :: fs => by rw [allQ, allQ_eq fs]; rfl
theorem allL_eq : ∀ (l : List Vl) (i : Nat), allL i l = (kidsL i l).flatMap pref
  | [], _ => by rw [allL]; rfl
  | x :: l, i => by rw [allL, allL_eq l (i + 1)]; rfl
theorem allP_eq (v : Vl) : allP v = if v.kind = 0 then [] else [] :: (skids v).flatMap pref := by
  cases v
  rw [allP]
  unfold skids
  rw [List.flatMap_append, List.flatMap_append, allF_eq, allQ_eq, allL_eq]
  rfl
theorem allP_some {v : Vl} (h : v.kind ≠ 0) : allP v = [] :: (skids v).flatMap pref := by rw [allP_eq, if_neg h]
theorem allP_none {v : Vl} (h : v.kind = 0) : allP v = [] := by rw [allP_eq, if_pos h]
def ksum (ks : List (St × Vl)) : Nat := (ks.map fun q => vnodes q.2).sum
theorem ksum_append (a b : List (St × Vl)) : ksum (a ++ b) = ksum a + ksum b := by unfold ksum; rw [List.map_append, List.sum_append]
theorem ksumF : ∀ fs : List (Int × Vl), ksum (kidsF fs) = fnodes fs
  | [] => by rw [fnodes]; rfl
  | (n, x) :: fs => by
    rw [fnodes, ← ksumF fs]
    rfl
theorem ksumQ : ∀ fs : List (Vl × Vl), ksum (kidsQ fs) ≤ pnodes fs
  | [] => Nat.zero_le _
  | (n, x) :: fs => by
    have := ksumQ fs
    rw [pnodes]
    show vnodes x + ksum (kidsQ fs) ≤ _
    omega
theorem ksumL : ∀ (l : List Vl) (i : Nat), ksum (kidsL i l) = lnodes l
  | [], _ => by rw [lnodes]; rfl
  | x :: l, i => by
    rw [lnodes, ← ksumL l (i + 1)]
    rfl
theorem ksum_skids (v : Vl) : ksum (skids v) + 1 ≤ vnodes v := by
  have h1 := ksumF v.fields
  have h2 := ksumQ v.pairs
  have h3 := ksumL v.list 0
  rw [vnodes_eq]
  unfold skids
  rw [ksum_append, ksum_append]
  omega
theorem ksum_mem {q : St × Vl} : ∀ {ks : List (St × Vl)}, q ∈ ks → vnodes q.2 ≤ ksum ks
  | x :: ks, h => by
    show _ ≤ vnodes x.2 + ksum ks
    rcases List.mem_cons.1 h with rfl | h
    · omega
    · have := ksum_mem h
      omega
theorem kid_nodes {v : Vl} {q : St × Vl} (h : q ∈ skids v) : vnodes q.2 < vnodes v := by
  have h1 := ksum_mem h
  have h2 := ksum_skids v
  omega
theorem sk_ind {P : Vl → Prop} (h : ∀ v, (∀ q ∈ skids v, P q.2) → P v) (v : Vl) : P v := by
  suffices key : ∀ (n : Nat) (v : Vl), vnodes v ≤ n → P v from key _ v (Nat.le_refl _)
  intro n
  induction n with
  | zero =>
    intro v hv
    have := ksum_skids v
    omega
  | succ n ih => exact fun v hv => h v fun q hq => ih _ (by have := kid_nodes hq; omega)
theorem pflat_len (ks : List (St × Vl)) (h : ∀ q ∈ ks, (allP q.2).length ≤ vnodes q.2) : (ks.flatMap pref).length ≤ ksum ks := by
  induction ks with
  | nil => exact Nat.le_refl _
  | cons q ks ih =>
    have h1 := ih fun x hx => h x (List.mem_cons_of_mem _ hx)
    have h2 := h q List.mem_cons_self
    rw [List.flatMap_cons, List.length_append]
    show _ ≤ vnodes q.2 + ksum ks
    unfold pref
    rw [List.length_map]
    unfold pref at h1
    omega
theorem allP_len (v : Vl) : (allP v).length ≤ vnodes v := by
  refine sk_ind (P := fun v => (allP v).length ≤ vnodes v) (fun v ih => ?_) v
  have h1 := pflat_len (skids v) ih
  have h2 := ksum_skids v
  rw [allP_eq]
  split
  · exact Nat.zero_le _
  · simp only [List.length_cons]
    omega
theorem allP_case {v : Vl} {p : List St} (h : p ∈ allP v) : v.kind ≠ 0 ∧ (p = [] ∨ ∃ q ∈ skids v, ∃ r ∈ allP q.2, p = q.1 :: r) := by
  by_cases hk : v.kind = 0
  · rw [allP_none hk] at h
    cases h
  · refine ⟨hk, ?_⟩
    rw [allP_some hk] at h
    rcases List.mem_cons.1 h with h | h
    · exact .inl h
    · obtain ⟨q, h1, h2⟩ := List.mem_flatMap.1 h
      obtain ⟨r, h3, h4⟩ := List.mem_map.1 h2
      exact .inr ⟨q, h1, r, h3, h4.symm⟩
theorem all_depth (v : Vl) : ∀ p ∈ allP v, p.length < vnodes v := by
  refine sk_ind (P := fun v => ∀ p ∈ allP v, p.length < vnodes v) (fun v ih p hp => ?_) v
  have h0 := ksum_skids v
  obtain ⟨_, rfl | ⟨q, hq, r, hr, rfl⟩⟩ := allP_case hp
  · simp only [List.length_nil]
    omega
  · have h1 := ih q hq r hr
    have h2 := kid_nodes hq
    simp only [List.length_cons]
    omega
theorem kidsL_get : ∀ {l : List Vl} {i k : Nat}, (kidsL i l)[k]? = (l[k]?).map fun x => (sI (i + k), x)
  | [], _, _ => by simp [kidsL]
  | x :: l, i, 0 => by simp [kidsL]
  | x :: l, i, k + 1 => by
    have := kidsL_get (l := l) (i := i + 1) (k := k)
    rw [kidsL, List.getElem?_cons_succ, List.getElem?_cons_succ, this, show i + 1 + k = i + (k + 1) by omega]
theorem kidsL_len : ∀ (l : List Vl) (i : Nat), (kidsL i l).length = l.length
  | [], _ => rfl
  | x :: l, i => by rw [kidsL, List.length_cons, List.length_cons, kidsL_len l (i + 1)]
theorem plain_lists {v : Vl} (h : vplain v = true) : (v.kind ≠ 3 → v.fields = []) ∧ (v.kind ≠ 4 → v.list = []) ∧ (v.kind ≠ 5 → v.pairs = []) := by
  unfold vplain at h
  simp only [Bool.and_eq_true, Bool.or_eq_true, decide_eq_true_eq, beq_iff_eq, decide_eq_decide] at h
  obtain ⟨⟨⟨_, h3⟩, h4⟩, h5⟩ := h
  refine ⟨fun hk => ?_, fun hk => ?_, fun hk => ?_⟩
  · rcases h3 with h3 | h3
    · exact absurd h3 hk
    · exact List.eq_nil_of_length_eq_zero (by omega)
  · refine List.eq_nil_of_length_eq_zero ?_
    have : ¬ 0 < v.list.length := fun h => hk (h4.2 h)
    omega
  · refine List.eq_nil_of_length_eq_zero ?_
    have : ¬ 0 < v.pairs.length := fun h => hk (h5.2 h)
    omega
theorem skids3 {v : Vl} (h : vplain v = true) (hk : v.kind = 3) : skids v = kidsF v.fields := by
  obtain ⟨_, h4, h5⟩ := plain_lists h
  unfold skids
  rw [h4 (by omega), h5 (by omega)]
  simp [kidsQ, kidsL]
theorem skids4 {v : Vl} (h : vplain v = true) (hk : v.kind = 4) : skids v = kidsL 0 v.list := by
  obtain ⟨h3, _, h5⟩ := plain_lists h
  unfold skids
  rw [h3 (by omega), h5 (by omega)]
  simp [kidsQ, kidsF]
theorem skids5 {v : Vl} (h : vplain v = true) (hk : v.kind = 5) : skids v = kidsQ v.pairs := by
  obtain ⟨h3, h4, _⟩ := plain_lists h
  unfold skids
  rw [h3 (by omega), h4 (by omega)]
  simp [kidsL, kidsF]
theorem skids0 {v : Vl} (h : vplain v = true) (h3 : v.kind ≠ 3) (h4 : v.kind ≠ 4) (h5 : v.kind ≠ 5) : skids v = [] := by
  obtain ⟨k3, k4, k5⟩ := plain_lists h
  unfold skids
  rw [k3 h3, k4 h4, k5 h5]
  rfl
theorem skid_case {v : Vl} (h : vplain v = true) {k : Nat} {q : St × Vl} (hq : (skids v)[k]? = some q) : (v.kind = 3 ∧ ∃ f, v.fields[k]? = some f ∧ q = (sF f.1, f.2)) ∨ (v.kind = 4 ∧ ∃ x, v.list[k]? = some x ∧ q = (sI k, x)) ∨ (v.kind = 5 ∧ ∃ p, v.pairs[k]? = some p ∧ q = (sK p.1, p.2)) := by
  by_cases h3 : v.kind = 3
  · rw [skids3 h h3, kidsF, List.getElem?_map, Option.map_eq_some_iff] at hq
    obtain ⟨f, hf, rfl⟩ := hq
    exact .inl ⟨h3, f, hf, rfl⟩
  by_cases h4 : v.kind = 4
  · rw [skids4 h h4, kidsL_get, Option.map_eq_some_iff] at hq
    obtain ⟨f, hf, rfl⟩ := hq
    exact .inr (.inl ⟨h4, f, hf, by rw [Nat.zero_add]⟩)
  by_cases h5 : v.kind = 5
  · rw [skids5 h h5, kidsQ, List.getElem?_map, Option.map_eq_some_iff] at hq
    obtain ⟨f, hf, rfl⟩ := hq
    exact .inr (.inr ⟨h5, f, hf, rfl⟩)
  · rw [skids0 h h3 h4 h5] at hq
    simp at hq
theorem fright_lt : ∀ {fs : List (Int × Vl)} {p : Int}, fright p fs = true → ∀ x ∈ fs, p < x.1
  | (n, x) :: fs, p, h, y, hy => by
    unfold fright at h
    simp only [Bool.and_eq_true, decide_eq_true_eq] at h
    rcases List.mem_cons.1 hy with rfl | hy
    · exact h.1.1.1.2
    · have := fright_lt h.2 y hy
      have := h.1.1.1.2
      omega
theorem fright_rise : ∀ {fs : List (Int × Vl)} {p : Int}, fright p fs = true → ∀ (i j : Nat) (x y : Int × Vl), i < j → fs[i]? = some x → fs[j]? = some y → x.1 < y.1
  | (n, a) :: fs, p, h, i, 0, x, y, hij, _, _ => by omega
  | (n, a) :: fs, p, h, 0, j + 1, x, y, hij, hx, hy => by
    unfold fright at h
    simp only [Bool.and_eq_true, decide_eq_true_eq] at h
    have hx' : (n, a) = x := by simpa using hx
    subst hx'
    exact fright_lt h.2 y (List.mem_of_getElem? (by simpa using hy))
  | (n, a) :: fs, p, h, i + 1, j + 1, x, y, hij, hx, hy => by
    unfold fright at h
    simp only [Bool.and_eq_true, decide_eq_true_eq] at h
    exact fright_rise h.2 i j x y (by omega) (by simpa using hx) (by simpa using hy)
theorem rises_get : ∀ {ps : List (Vl × Vl)}, Rises ps → ∀ (i j : Nat) (x y : Vl × Vl), i < j → ps[i]? = some x → ps[j]? = some y → vcmp x.1 y.1 < 0
  | a :: ps, h, i, 0, x, y, hij, _, _ => by omega
  | a :: ps, h, 0, j + 1, x, y, hij, hx, hy => by
    have hx' : a = x := by simpa using hx
    subst hx'
    exact h.1 y (List.mem_of_getElem? (by simpa using hy))
  | a :: ps, h, i + 1, j + 1, x, y, hij, hx, hy => rises_get h.2 i j x y (by omega) (by simpa using hx) (by simpa using hy)
theorem fidx_at {v : Vl} (h : vright v = true) {k : Nat} {f : Int × Vl} (hf : v.fields[k]? = some f) : gidx (fto f.1) v.fields = k ∧ gfound (fto f.1) v.fields = true := by
  have h1 := (right_all h).2.1
  have hk := (List.getElem?_eq_some_iff.1 hf).1
  have h0 : fto f.1 f = 0 := by unfold fto icmp; simp
  have hi : gidx (fto f.1) v.fields = k := gidx_of (by omega) (fun p x hp hx => by
    have := fright_rise h1 p k x f hp hx hf
    unfold fto icmp
    rw [if_pos this]
    omega) (fun x hx => by
    rw [hf] at hx
    obtain rfl := Option.some.inj hx
    rw [h0]
    omega)
  refine ⟨hi, ?_⟩
  unfold gfound
  rw [hi, List.getD_eq_getElem?_getD, hf]
  simp [hk, h0]
theorem pidx_at {v : Vl} (h : vright v = true) {k : Nat} {p : Vl × Vl} (hp : v.pairs[k]? = some p) : gidx (pto p.1) v.pairs = k ∧ gfound (pto p.1) v.pairs = true := by
  have h1 := rises_right h
  have hk := (List.getElem?_eq_some_iff.1 hp).1
  have h0 : pto p.1 p = 0 := vcmp_self p.1
  have hi : gidx (pto p.1) v.pairs = k := gidx_of (by omega) (fun i x hi hx => rises_get h1 i k x p hi hx hp) (fun x hx => by
    rw [hp] at hx
    obtain rfl := Option.some.inj hx
    rw [h0]
    omega)
  refine ⟨hi, ?_⟩
  unfold gfound
  rw [hi, List.getD_eq_getElem?_getD, hp]
  simp [hk, h0]
theorem fAt_at {v : Vl} (h : vright v = true) (hk : v.kind = 3) {k : Nat} {f : Int × Vl} (hf : v.fields[k]? = some f) : fAt (sF f.1) v = (k : Int) := by
  obtain ⟨h1, h2⟩ := fidx_at h hf
  show (if v.kind = 3 then (if gfound (fto f.1) v.fields then (gidx (fto f.1) v.fields : Int) else -1) else -1) = _
  rw [if_pos hk, if_pos h2, h1]
theorem pAt_at {v : Vl} (h : vright v = true) (hk : v.kind = 5) {k : Nat} {f : Vl × Vl} (hf : v.pairs[k]? = some f) : pAt (sK f.1) v = (k : Int) := by
  obtain ⟨h1, h2⟩ := pidx_at h hf
  show (if v.kind = 5 then (if gfound (pto f.1) v.pairs then (gidx (pto f.1) v.pairs : Int) else -1) else -1) = _
  rw [if_pos hk, if_pos h2, h1]
theorem vget_at {v : Vl} (h : vright v = true) (hk : v.kind = 3) {k : Nat} {f : Int × Vl} (hf : v.fields[k]? = some f) : vget v f.1 = f.2 := by
  obtain ⟨h1, h2⟩ := fidx_at h hf
  unfold vget
  rw [if_pos hk, find_found f.1 (right_all h).2.1, if_pos h2, h1, List.getD_eq_getElem?_getD, hf]
  rfl
theorem vfind_at {v : Vl} (h : vright v = true) (hk : v.kind = 5) {k : Nat} {f : Vl × Vl} (hf : v.pairs[k]? = some f) : vfind v f.1 = f.2 := by
  obtain ⟨h1, h2⟩ := pidx_at h hf
  unfold vfind
  rw [if_pos hk, findp_found f.1 (rises_right h), if_pos h2, h1, List.getD_eq_getElem?_getD, hf]
  rfl
theorem pright_key {q : Vl × Vl} : ∀ {ps : List (Vl × Vl)} {o : Option Vl}, pright o ps = true → q ∈ ps → q.1.kind = 1 ∨ q.1.kind = 2
  | (k, x) :: ps, o, h, hq => by
    unfold pright at h
    simp only [Bool.and_eq_true, decide_eq_true_eq] at h
    rcases List.mem_cons.1 hq with rfl | hq
    · have h1 := h.1.1.1.1.1.1
      have h2 := h.1.1.1.1.1.2
      unfold vone at h2
      simp only [Bool.or_eq_true, decide_eq_true_eq] at h2
      show k.kind = 1 ∨ k.kind = 2
      omega
    · exact pright_key h.2 hq
theorem fright_num {f : Int × Vl} : ∀ {fs : List (Int × Vl)} {p : Int}, fright p fs = true → f ∈ fs → 1 ≤ f.1 ∧ f.1 ≤ 536870911
  | (n, x) :: fs, p, h, hf => by
    unfold fright at h
    simp only [Bool.and_eq_true, decide_eq_true_eq] at h
    rcases List.mem_cons.1 hf with rfl | hf
    · exact ⟨h.1.1.1.1.1, h.1.1.1.1.2⟩
    · exact fright_num h.2 hf
structure Gp (v : Vl) : Prop where
  g : Gd v
  t : v.Tx
  n : vnodes v ≤ 1000
structure KF (v : Vl) (q : St × Vl) : Prop where
  get : sget q.1 v = (q.2, true)
  kind : q.2.kind ≠ 0
  srt : srt q.1 = true
  gp : Gp q.2
  short : Short q.1.key
  fine : q.1.key.Fine
  tx : q.1.key.Tx
theorem tx_none : vnone.Tx := .mk _ (Nat.zero_le _) (Nat.zero_le _) fun x hx => by cases hx
theorem rk_f {v : Vl} {f : Int × Vl} (h : f ∈ v.fields) : f.2 ∈ rkids v := by
  unfold rkids
  exact List.mem_append_left _ (List.mem_append_right _ (List.mem_map.2 ⟨f, h, rfl⟩))
theorem rk_l {v x : Vl} (h : x ∈ v.list) : x ∈ rkids v := by
  unfold rkids
  exact List.mem_append_left _ (List.mem_append_left _ h)
theorem rk_p {v : Vl} {p : Vl × Vl} (h : p ∈ v.pairs) : p.1 ∈ rkids v ∧ p.2 ∈ rkids v := by
  unfold rkids gpairs
  exact ⟨List.mem_append_right _ (List.mem_flatMap.2 ⟨p, h, by simp⟩), List.mem_append_right _ (List.mem_flatMap.2 ⟨p, h, by simp⟩)⟩
theorem kid_facts {v : Vl} (hv : Gp v) {k : Nat} {q : St × Vl} (hq : (skids v)[k]? = some q) : KF v q := by
  obtain ⟨hp, hf, hl, hpr⟩ := right_all hv.g.r
  have hn := kid_nodes (List.mem_of_getElem? hq)
  have hvn := hv.n
  rcases skid_case hp hq with ⟨h3, f, h1, rfl⟩ | ⟨h4, x, h1, rfl⟩ | ⟨h5, p, h1, rfl⟩
  · have hm := List.mem_of_getElem? h1
    have h2 := fright_mem hf hm
    have h6 := fright_num hf hm
    have h7 := vget_at hv.g.r h3 h1
    refine ⟨?_, h2.2, ?_, ⟨⟨h2.1, short_field hv.g.s hm, (hv.g.f.field hm).2⟩, hv.t.kid (rk_f hm), ?_⟩, gd_none.s, gd_none.f, tx_none⟩
    · show (vget v f.1, !decide ((vget v f.1).kind = 0)) = (f.2, true)
      rw [h7]
      simp [h2.2]
    · have e0 : vnone.kind = 0 := rfl
      simp [srt, snumR, stoR, skeyF, vright_none, e0]
      omega
    · have hn' : vnodes f.2 < vnodes v := hn
      omega
  · have hm := List.mem_of_getElem? h1
    have h2 := lright_mem hl hm
    have hk := (List.getElem?_eq_some_iff.1 h1).1
    have hln := lnodes_len v.list
    have hvs := vnodes_eq v
    refine ⟨?_, vone_kind h2.2, ?_, ⟨⟨h2.1, short_elem hv.g.s hm, hv.g.f.elem hm⟩, hv.t.kid (rk_l hm), ?_⟩, gd_none.s, gd_none.f, tx_none⟩
    · show sidx (sI k) v = (x, true)
      unfold sidx
      rw [if_pos ⟨h4, Int.natCast_nonneg k, by show (k : Int) < _; omega⟩]
      show (v.list.getD ((k : Int)).toNat default, true) = _
      rw [Int.toNat_natCast, List.getD_eq_getElem?_getD, h1]
      rfl
    · have e0 : vnone.kind = 0 := rfl
      simp [srt, snumR, stoR, skeyF, vright_none, e0]
      omega
    · have hn' : vnodes x < vnodes v := hn
      omega
  · have hm := List.mem_of_getElem? h1
    have h2 := pright_mem hpr hm
    have h6 := pright_key hpr hm
    have h7 := vfind_at hv.g.r h5 h1
    have htx := hv.t.kid (rk_p hm).1
    have hle := htx.texts.1
    have hvo := vone_kind h2.2.1
    refine ⟨?_, hvo, ?_, ⟨⟨h2.1, (short_pair hv.g.s hm).2, (hv.g.f.pair hm).2⟩, hv.t.kid (rk_p hm).2, ?_⟩, (short_pair hv.g.s hm).1, (hv.g.f.pair hm).1, htx⟩
    · show (vfind v p.1, !decide ((vfind v p.1).kind = 0)) = (p.2, true)
      rw [h7]
      simp [hvo]
    · simp [srt, snumR, stoR, skeyF, h2.2.2]
      omega
    · have hn' : vnodes p.2 < vnodes v := hn
      omega
theorem kid_mem {v : Vl} (hv : Gp v) {q : St × Vl} (hq : q ∈ skids v) : KF v q := by
  obtain ⟨k, hk⟩ := List.getElem?_of_mem hq
  exact kid_facts hv hk
theorem all_get (v : Vl) : Gp v → ∀ p ∈ allP v, ∃ x, rget v p = (x, true) ∧ x.kind ≠ 0 := by
  refine sk_ind (P := fun v => Gp v → ∀ p ∈ allP v, ∃ x, rget v p = (x, true) ∧ x.kind ≠ 0) (fun v ih hv p hp => ?_) v
  obtain ⟨hk, rfl | ⟨q, hq, r, hr, rfl⟩⟩ := allP_case hp
  · exact ⟨v, by unfold rget; simp [hk], hk⟩
  · have hf := kid_mem hv hq
    obtain ⟨x, h1, h2⟩ := ih q hq hf.gp r hr
    by_cases hr0 : r = []
    · subst hr0
      exact ⟨q.2, rget_one hf.get rfl rfl, hf.kind⟩
    · exact ⟨x, (rget_on hf.get rfl hr0 hf.kind).trans h1, h2⟩
theorem all_right (v : Vl) : Gp v → ∀ p ∈ allP v, p.all srt = true ∧ KeysShort p ∧ KeysGood p := by
  refine sk_ind (P := fun v => Gp v → ∀ p ∈ allP v, p.all srt = true ∧ KeysShort p ∧ KeysGood p) (fun v ih hv p hp => ?_) v
  obtain ⟨hk, rfl | ⟨q, hq, r, hr, rfl⟩⟩ := allP_case hp
  · exact ⟨rfl, fun s hs => absurd hs List.not_mem_nil, fun s hs => absurd hs List.not_mem_nil⟩
  · have hf := kid_mem hv hq
    obtain ⟨h1, h2, h3⟩ := ih q hq hf.gp r hr
    refine ⟨by rw [List.all_cons, hf.srt, h1]; rfl, fun s hs => ?_, fun s hs => ?_⟩
    · rcases List.mem_cons.1 hs with rfl | hs
      · exact hf.short
      · exact h2 s hs
    · rcases List.mem_cons.1 hs with rfl | hs
      · exact ⟨hf.fine, hf.tx, hf.short⟩
      · exact h3 s hs
def pbeg (a b : List St) : Bool := decide (a.length ≤ b.length) && psame a (b.take a.length)
theorem pbeg_nil (b : List St) : pbeg [] b = true := by
  unfold pbeg
  simp [psame, all2]
theorem pbeg_no (s : St) (a : List St) : pbeg (s :: a) [] = false := by
  unfold pbeg
  simp
theorem pbeg_cons (s t : St) (a b : List St) : pbeg (s :: a) (t :: b) = (sameS s t && pbeg a b) := by
  unfold pbeg
  simp only [List.length_cons, List.take_succ_cons, psame, all2, Nat.add_le_add_iff_right]
  cases sameS s t <;> simp
def nb : List (List St) → Prop
  | a :: b :: l => pbeg b a = false ∧ nb (b :: l)
  | _ => True
theorem nb_map (s : St) : ∀ {l : List (List St)}, nb l → nb (l.map (s :: ·))
  | [], _ => trivial
  | [_], _ => trivial
  | a :: b :: l, h => ⟨by rw [pbeg_cons, h.1, Bool.and_false], nb_map s (l := b :: l) h.2⟩
theorem nb_append : ∀ {l m : List (List St)}, nb l → nb m → (∀ a b, l.getLast? = some a → m.head? = some b → pbeg b a = false) → nb (l ++ m)
  | [], _, _, hm, _ => hm
  | [a], [], _, _, _ => trivial
  | [a], b :: m, _, hm, h => ⟨h a b rfl rfl, hm⟩
  | a :: b :: l, m, hl, hm, h => ⟨hl.1, nb_append (l := b :: l) hl.2 hm fun x y hx hy => h x y (by rw [List.getLast?_cons_cons]; exact hx) hy⟩
def chK : List (St × Vl) → Prop
  | q :: r :: l => sameS r.1 q.1 = false ∧ chK (r :: l)
  | _ => True
theorem pref_head {q : St × Vl} (hk : q.2.kind ≠ 0) : pref q = [q.1] :: ((skids q.2).flatMap pref).map (q.1 :: ·) := by
  unfold pref
  rw [allP_some hk]
  rfl
theorem pref_mem {q : St × Vl} {a : List St} (h : a ∈ pref q) : ∃ r, a = q.1 :: r := by
  obtain ⟨r, _, h2⟩ := List.mem_map.1 h
  exact ⟨r, h2.symm⟩
theorem nb_flat : ∀ {ks : List (St × Vl)}, chK ks → (∀ q ∈ ks, q.2.kind ≠ 0 ∧ nb (allP q.2)) → nb (ks.flatMap pref)
  | [], _, _ => trivial
  | [q], _, h => by
    rw [List.flatMap_cons, List.flatMap_nil, List.append_nil]
    exact nb_map q.1 (h q List.mem_cons_self).2
  | q :: r :: ks, hc, h => by
    have ih := nb_flat (ks := r :: ks) hc.2 fun x hx => h x (List.mem_cons_of_mem _ hx)
    rw [List.flatMap_cons]
    refine nb_append (nb_map q.1 (h q List.mem_cons_self).2) ih fun a b ha hb => ?_
    obtain ⟨a', rfl⟩ := pref_mem (q := q) (List.mem_of_getLast? ha)
    rw [List.flatMap_cons, pref_head (h r (by simp)).1] at hb
    obtain rfl : [r.1] = b := by simpa using hb
    rw [pbeg_cons, hc.1]
    rfl
theorem chK_of : ∀ {ks : List (St × Vl)}, (∀ (i : Nat) q r, ks[i]? = some q → ks[i + 1]? = some r → sameS r.1 q.1 = false) → chK ks
  | [], _ => trivial
  | [_], _ => trivial
  | q :: r :: ks, h => ⟨h 0 q r rfl rfl, chK_of (ks := r :: ks) fun i x y hx hy => h (i + 1) x y (by simpa using hx) (by simpa using hy)⟩
theorem chK_kids {v : Vl} (hv : Gp v) : chK (skids v) := by
  obtain ⟨hp, hf, hl, hpr⟩ := right_all hv.g.r
  refine chK_of fun i q r hq hr => ?_
  rcases skid_case hp hq with ⟨h3, f, h1, rfl⟩ | ⟨h4, x, h1, rfl⟩ | ⟨h5, p, h1, rfl⟩
  · rcases skid_case hp hr with ⟨_, g, h2, rfl⟩ | ⟨h4, _⟩ | ⟨h5, _⟩
    · have := fright_rise hf i (i + 1) f g (by omega) h1 h2
      have hne : ¬ g.1 = f.1 := by omega
      simp [sameS, hne]
    · omega
    · omega
  · rcases skid_case hp hr with ⟨h3, _⟩ | ⟨_, y, h2, rfl⟩ | ⟨h5, _⟩
    · omega
    · have hne : ¬ ((i + 1 : Nat) : Int) = (i : Int) := by omega
      simp only [sameS, hne, decide_false, Bool.and_false, Bool.false_and]
    · omega
  · rcases skid_case hp hr with ⟨h3, _⟩ | ⟨h4, _⟩ | ⟨_, y, h2, rfl⟩
    · omega
    · omega
    · have h6 := rises_get (rises_right hv.g.r) i (i + 1) p y (by omega) h1 h2
      have h7 := vcmp_neg p.1 y.1
      have hne : ¬ vcmp y.1 p.1 = 0 := by omega
      simp [sameS, hne]
theorem all_nb (v : Vl) : Gp v → nb (allP v) := by
  refine sk_ind (P := fun v => Gp v → nb (allP v)) (fun v ih hv => ?_) v
  by_cases hk : v.kind = 0
  · rw [allP_none hk]
    trivial
  · rw [allP_some hk]
    have h1 : nb ((skids v).flatMap pref) := nb_flat (chK_kids hv) fun q hq => ⟨(kid_mem hv hq).kind, ih q hq (kid_mem hv hq).gp⟩
    refine nb_append (l := [[]]) trivial h1 fun a b ha hb => ?_
    obtain rfl : [] = a := by simpa using ha
    have hb2 := List.mem_of_head? hb
    obtain ⟨q, _, h3⟩ := List.mem_flatMap.1 hb2
    obtain ⟨r, rfl⟩ := pref_mem h3
    exact pbeg_no _ _
theorem nb_get : ∀ {l : List (List St)}, nb l → ∀ (i : Nat) a b, l[i]? = some a → l[i + 1]? = some b → pbeg b a = false
  | [], _, i, a, b, h, _ => by simp at h
  | [_], _, i, a, b, _, h => by simp at h
  | x :: y :: l, h, 0, a, b, ha, hb => by
    obtain rfl : x = a := by simpa using ha
    obtain rfl : y = b := by simpa using hb
    exact h.1
  | x :: y :: l, h, i + 1, a, b, ha, hb => nb_get (l := y :: l) h.2 i a b (by simpa using ha) (by simpa using hb)
theorem all_first {v : Vl} {p : List St} (h : (allP v)[0]? = some p) : p = [] := by
  by_cases hk : v.kind = 0
  · rw [allP_none hk] at h
    simp at h
  · rw [allP_some hk] at h
    simpa using h.symm
end Go.Proofs.YtagoikglbifhmaaGreatDoor
