/- Part 15 of what the last text of this claim is proved by: walks over the program, and the math behind them. Conditions: as each theorem says. -/
import Derived.Test.YtekeanikgcpijaaDoorSO14
import Derived.Test.YtekeanikgcpijaaDoorProg
namespace Go.Proofs.YtekeanikgcpijaaDoor
open Go.RowKit
def QE {α : Type} (l : List Tk) (E8 E9 : Er) (C : α → Prop) (P : α → Part) (r : Ans8 (α × Nat)) (y : IV) (B1 : BL) (R1 : RL) : Prop :=
 (∃ a b z x, C x ∧ r = .error (a, b) ∧ y = .tup [P x, fltP l a (erv E8 E9 b)] ∧ B1 = pB l z ∧ R1 = []) ∨ (∃ x z, r = .ok (x, z) ∧ y = .tup [P x, nilP] ∧ B1 = pB l z ∧ R1 = [])
theorem QE.tidy {α : Type} {l : List Tk} {E8 E9 : Er} {C : α → Prop} {P : α → Part} {r : Ans8 (α × Nat)} {q : Nat} (y : IV) (B1 : BL) (R1 : RL) (h : QE l E8 E9 C P r y B1 R1) : Tidy (pB l q) [] y B1 R1 := by
 rcases h with ⟨a, b, z, x, _, _, rfl, rfl, rfl⟩ | ⟨x, z, _, rfl, rfl, rfl⟩ <;> exact ⟨rfl, rfl, rfl, rfl⟩
theorem lt_of_kind {l : List Tk} {q k : Nat} (h : (tkAt l q).1.k = k) (hk : k ≠ 0) : q < l.length := by
 rcases Nat.lt_or_ge q l.length with h1 | h1
 ·exact h1
 ·refine absurd ?_ hk
  rw [← h]
  unfold tkAt
  rw [List.getD_eq_getElem?_getD, List.getElem?_eq_none h1]
  rfl
theorem name_is {l : List Tk} {q : Nat} (h : (tkAt l q).1.k = 1) : q < l.length ∧ sName l q = .ok (tkAt l q, q + 1) := by
 have hlt := lt_of_kind h (by decide)
 refine ⟨hlt, ?_⟩
 unfold sName
 rw [tkAt_lt hlt]
 exact if_pos h
theorem name_not {l : List Tk} {q : Nat} (h : (tkAt l q).1.k ≠ 1) : sName l q = .error (q, 9) := by
 unfold sName
 cases hx : l[q]? with
 | none => rfl
 | some x =>
  rw [tkAt_of hx] at h
  exact if_neg h
theorem number_is {l : List Tk} {q : Nat} (h : (tkAt l q).1.k = 2) : q < l.length ∧ sNumber l q = .ok (((tkAt l q).1.n : Int), q + 1) := by
 have hlt := lt_of_kind h (by decide)
 refine ⟨hlt, ?_⟩
 unfold sNumber
 rw [tkAt_lt hlt]
 exact if_pos h
theorem number_not {l : List Tk} {q : Nat} (h : (tkAt l q).1.k ≠ 2) : sNumber l q = .error (q, 9) := by
 unfold sNumber
 cases hx : l[q]? with
 | none => rfl
 | some x =>
  rw [tkAt_of hx] at h
  exact if_neg h
theorem text_is {l : List Tk} {q : Nat} (h : (tkAt l q).1.k = 3) : q < l.length ∧ sText l q = .ok ((tkAt l q).1.t, q + 1) := by
 have hlt := lt_of_kind h (by decide)
 refine ⟨hlt, ?_⟩
 unfold sText
 rw [tkAt_lt hlt]
 exact if_pos h
theorem text_not {l : List Tk} {q : Nat} (h : (tkAt l q).1.k ≠ 3) : sText l q = .error (q, 9) := by
 unfold sText
 cases hx : l[q]? with
 | none => rfl
 | some x =>
  rw [tkAt_of hx] at h
  exact if_neg h
set_option maxRecDepth 100000 in
set_option maxHeartbeats 1000000 in
theorem dots_g (E8 E9 : Er) (l : List Tk) (hl : PTk l) (p : Nat) (hp : p ≤ 100000) : EG Tryd.prog (gE E8 E9) 30 [.box 1 0] (pB l p) [] (QE l E8 E9 (· = []) sP (sDots l (l.length + 1) [] p)) := by
 refine eg_enter 24 Tryd.func30 rfl rfl rfl fun w D bor mb => ?_
 try refine e_fl ?_
 have hll := hl.len
 obtain ⟨rr, hrr⟩ : ∃ rr, rr = sDots l (l.length + 1) [] p := ⟨_, rfl⟩
 rw [← hrr]
 refine e_plain (w_as rfl rfl rfl rfl rfl (w_as rfl rfl rfl rfl rfl .nil)) ?_
 try refine e_fl ?_
 refine e_list ?_
 refine e_alloc 2 [.is (.pointer none), .is (.slice none 0 0)] rfl rfl rfl rfl zr_110 (fun w D M V => ⟨rfl, fun j x v h1 h2 => cfit_is _ h1 h2 rfl⟩) rfl rfl rfl rfl ?_
 refine e_nil ?_
 try refine e_fl ?_
 refine e_row_cell 2 1 200 5 1 rfl rfl rfl rfl rfl ?_
 refine e_loop (ι := { i : Nat × List UInt8 × Nat × IV // 1 ≤ i.1 ∧ l.length + 1 ≤ i.1 + i.2.2.1 ∧ i.2.2.1 ≤ 100001 ∧ i.2.1.length ≤ 100001 * i.2.2.1 + 1 ∧ (i.2.2.2 = .is (.pointer none) ∨ i.2.2.2 = .box 2 0) ∧ rr = sDots l i.1 i.2.1 i.2.2.1 })
  (fun _ => [(0, .box 1 0), (4, .box 2 0)])
  (fun i => [(1, pX l i.1.2.2.1), (2, ⟨110, [i.1.2.2.2, .own 200]⟩)])
  (fun i => bR i.1.2.1)
  (fun i => i.1.1) ⟨(l.length + 1, [], p, .is (.pointer none)), by omega, by dsimp only; omega, by dsimp only; omega, by simp, .inl rfl, hrr⟩
  (fun K => e_sub ⟨s_t, s_t, trivial⟩ ⟨s_b, s_b, trivial⟩ ⟨rfl, trivial⟩) ?_
 rintro ⟨⟨n, s, q, c0⟩, hn1, hn, hq, hs, hc0, hw⟩
 dsimp only at hn1 hn hq hs hc0 hw ⊢
 obtain ⟨m, rfl⟩ : ∃ m, n = m + 1 := ⟨n - 1, by omega⟩
 rcases hc0 with rfl | rfl
 all_goals
  rw [sDots] at hw
  try refine e_fl ?_
  refine e_list ?_
  refine l_mv ?_
  refine e_calli rfl rfl rfl rfl (by kernel_rfl) (token_g E8 E9 l hl.toTksOk q 1 (by omega)) ⟨rfl, trivial⟩ trivial ⟨(kn rfl), ⟨(kn rfl), trivial⟩⟩ (TY.tidy) ?_
  rintro _ _ _ (⟨hk, rfl, rfl, rfl⟩ | ⟨hk, rfl, rfl, rfl⟩)
  ·rw [name_not hk] at hw
   refine l_mv ?_
   refine l_ex ?_
   refine l_ex ?_
   refine e_alloc 5 [.is (.int .i64 0), .is (.string ⟨#[]⟩), .is (.int .i64 0), .is (.int .i64 0), .is (.int .i64 0)] rfl rfl rfl rfl zr_67 (fun w D M V => ⟨rfl, fun j x v h1 h2 => cfit_is _ h1 h2 rfl⟩) rfl rfl rfl rfl ?_
   refine e_storew rfl rfl rfl (kn rfl) rfl (kn rfl) rfl rfl sz_67 ?_
   refine l_as ?_
   refine e_nil ?_
   try refine e_fl ?_
   refine e_plain (w_mv rfl rfl rfl rfl rfl (w_op rfl rfl rfl (s_err_neq rfl (kn rfl) rfl ifc_30) .nil)) ?_
   try refine e_fl ?_
   refine c_yes ?_
   try refine e_fl ?_
   refine e_plain (w_mv rfl rfl rfl rfl rfl (w_as rfl rfl rfl rfl rfl (w_as rfl rfl rfl rfl rfl .nil))) ?_
   try refine e_fl ?_
   exact e_returnx (pB l q) ([]) rfl (.tmp (kn rfl) (.tmp (kn rfl) (.nil))) (Imp.refl _) ⟨s_b, trivial⟩ trivial (.inl ⟨q, 9, q, [], rfl, hw, rfl, rfl, rfl⟩)
  obtain ⟨hlt, ho⟩ := name_is hk
  have hx3 := hl.txt q
  have hne := hl.ne q hk
  rw [ho] at hw
  dsimp only at hw
  refine l_mv ?_
  refine l_ex ?_
  refine l_ex ?_
  refine e_alloc 5 [.is (.int .i64 0), .is (.string ⟨#[]⟩), .is (.int .i64 0), .is (.int .i64 0), .is (.int .i64 0)] rfl rfl rfl rfl zr_67 (fun w D M V => ⟨rfl, fun j x v h1 h2 => cfit_is _ h1 h2 rfl⟩) rfl rfl rfl rfl ?_
  refine e_storew rfl rfl rfl (kn rfl) rfl (kn rfl) rfl rfl sz_67 ?_
  refine l_as ?_
  refine e_nil ?_
  try refine e_fl ?_
  refine e_plain (w_mv rfl rfl rfl rfl rfl (w_op rfl rfl rfl (s_nil_neq rfl (kn rfl) ifc_30) .nil)) ?_
  try refine e_fl ?_
  refine c_no ?_
  try refine e_fl ?_
  refine e_list ?_
  refine l_op (s_faddr_box rfl (kn rfl) off_67_1) ?_
  refine l_op (s_load1_box rfl (kn rfl) rfl rfl one_9) ?_
  refine e_calli rfl rfl rfl rfl (by kernel_rfl) (write_g _ _ (by first | exact .inl rfl | exact .inr rfl) s (tkAt l q).1.t (by omega)) ⟨rfl, trivial⟩ ⟨rfl, trivial⟩ ⟨(kn rfl), ⟨(kn rfl), trivial⟩⟩ (BY.tidy) ?_
  rintro _ _ _ ⟨rfl, rfl, rfl⟩
  refine e_nil ?_
  try refine e_fl ?_
  refine e_list ?_
  refine l_mv ?_
  refine l_op (s_buildSlice (ds := [_]) [(0, _)] rfl ⟨rfl, (kn rfl), trivial⟩ rfl sl_45 sz_9 zr_9 (fun w D => .cons (.cell _) (.nil _ _)) rfl rfl rfl rfl rfl) ?_
  refine e_calli rfl rfl rfl rfl (by kernel_rfl) (take1 _ l hl [46] 4 rfl (by decide) (q + 1) (by omega)) ⟨rfl, trivial⟩ trivial ⟨(kn rfl), ⟨(kn rfl), trivial⟩⟩ (fun _ _ _ h => PY.tidy h.1 h.2.1 h.2.2) ?_
  rintro _ _ _ ⟨rfl, rfl, rfl⟩
  refine l_op (s_not rfl (kn rfl)) ?_
  refine e_nil ?_
  try refine e_fl ?_
  refine e_cond rfl (fun h => ?_) (fun h => ?_)
  ·have h1 := not_t h
   rw [if_neg (by rw [h1]; decide)] at hw
   rw [h1]
   try refine e_fl ?_
   refine e_list ?_
   refine e_calli rfl rfl rfl rfl (by kernel_rfl) (string_g _ _ (s ++ (tkAt l q).1.t) (fun e => hne (List.append_eq_nil_iff.1 e).2) (by simp only [List.length_append]; omega)) ⟨rfl, trivial⟩ ⟨rfl, trivial⟩ ⟨(kn rfl), trivial⟩ (StrY.tidy) ?_
   rintro _ _ _ ⟨rfl, rfl, rfl⟩
   refine l_as ?_
   refine l_as ?_
   refine e_nil ?_
   try refine e_fl ?_
   exact e_returnx (pB l (q + 1)) ([]) rfl (.tmp (kn rfl) (.tmp (kn rfl) (.nil))) (Imp.refl _) ⟨s_b, trivial⟩ trivial (.inr ⟨s ++ (tkAt l q).1.t, q + 1, hw, rfl, rfl, rfl⟩)
  have h1 := not_f h
  have hlt1 := tkIs_lt h1
  rw [if_pos h1] at hw
  rw [h1]
  try refine e_fl ?_
  refine e_list ?_
  refine e_calli rfl rfl rfl rfl (by kernel_rfl) (write_g _ (.box 2 0) (.inr rfl) (s ++ (tkAt l q).1.t) [46] (by simp only [List.length_append, List.length_cons, List.length_nil]; omega)) ⟨rfl, trivial⟩ ⟨rfl, trivial⟩ ⟨(kn rfl), ⟨(kn rfl), trivial⟩⟩ (BY.tidy) ?_
  rintro _ _ _ ⟨rfl, rfl, rfl⟩
  refine e_nil ?_
  try refine e_fl ?_
  refine e_again ⟨(m, s ++ (tkAt l q).1.t ++ [46], q + 1 + 1, .box 2 0), by omega, by dsimp only; omega, by dsimp only; omega, by simp only [List.length_append, List.length_cons, List.length_nil]; omega, .inr rfl, hw⟩ (by dsimp only; omega) (fun K => e_sub ⟨s_t, s_t, trivial⟩ ⟨s_b, s_b, trivial⟩ ⟨rfl, trivial⟩)
theorem sDots_pre {l : List Tk} (a : List UInt8) : ∀ (n : Nat) (s : List UInt8) (p : Nat), sDots l n (a ++ s) p = match sDots l n s p with | .error e => .error e | .ok (t, q) => .ok (a ++ t, q)
 | 0, s, p => rfl
 | n + 1, s, p => by
  rw [sDots, sDots]
  cases sName l p with
  | error e => rfl
  | ok x =>
   obtain ⟨x, q⟩ := x
   dsimp only
   split
   ·rw [← sDots_pre a n (s ++ x.1.t ++ [46]) (q + 1)]
    simp [List.append_assoc]
   ·simp [List.append_assoc]
theorem sDots_len {l : List Tk} (hl : TksOk l) : ∀ (n : Nat) (s : List UInt8) (p : Nat) {t : List UInt8} {q : Nat}, sDots l n s p = .ok (t, q) → t.length + 100001 * p ≤ s.length + 100001 * q
 | 0, s, p, t, q, h => by cases h
 | n + 1, s, p, t, q, h => by
  unfold sDots at h
  split at h
  ·cases h
  rename_i x r hx
  obtain ⟨h1, h2, h3, _⟩ := sName_ok hx
  have h4 := hl.txt p
  rw [tkAt_of h3] at h4
  split at h
  ·have := sDots_len hl n _ _ h
   simp only [List.length_append, List.length_cons, List.length_nil] at this
   omega
  ·injection h with h
   injection h with h5 h6
   subst h5 h6
   simp only [List.length_append]
   omega
theorem sDotted_pt {l : List Tk} {p : Nat} (h : tkIs l p 4 [46] = true) : sDotted l true p = match sDots l (l.length + 1) [] (p + 1) with | .error e => .error e | .ok (t, q) => .ok ([46] ++ t, q) := by
 unfold sDotted
 rw [h, ← sDots_pre]
 rfl
theorem sDotted_no {l : List Tk} {p : Nat} (h : tkIs l p 4 [46] = false) : sDotted l true p = sDots l (l.length + 1) [] p := by
 unfold sDotted
 rw [h]
 rfl
set_option maxRecDepth 100000 in
theorem typeName_g (E8 E9 : Er) (l : List Tk) (hl : PTk l) (p : Nat) (hp : p ≤ 100000) : EG Tryd.prog (gE E8 E9) 91 [.box 1 0] (pB l p) [] (QE l E8 E9 (fun x => x.length ≤ 10) sP (sDotted l true p)) := by
 refine eg_enter 19 Tryd.func91 rfl rfl rfl fun w D bor mb => ?_
 try refine e_fl ?_
 have hll := hl.len
 refine e_plain (w_as rfl rfl rfl rfl rfl (w_as rfl rfl rfl rfl rfl .nil)) ?_
 try refine e_fl ?_
 refine e_plain (w_as rfl rfl rfl rfl rfl .nil) ?_
 try refine e_fl ?_
 refine e_list ?_
 refine l_mv ?_
 refine l_op (s_buildSlice (ds := [_]) [(0, _)] rfl ⟨rfl, (kn rfl), trivial⟩ rfl sl_45 sz_9 zr_9 (fun w D => .cons (.cell _) (.nil _ _)) rfl rfl rfl rfl rfl) ?_
 refine e_calli rfl rfl rfl rfl (by kernel_rfl) (take1 _ l hl [46] 4 rfl (by decide) p (by omega)) ⟨rfl, trivial⟩ trivial ⟨(kn rfl), ⟨(kn rfl), trivial⟩⟩ (fun _ _ _ h => PY.tidy h.1 h.2.1 h.2.2) ?_
 rintro _ _ _ ⟨rfl, rfl, rfl⟩
 refine e_nil ?_
 try refine e_fl ?_
 refine e_cond rfl (fun h => ?_) (fun h => ?_)
 ·have hlt := tkIs_lt h
  have hw := sDotted_pt h
  rw [h]
  try refine e_fl ?_
  refine e_plain (w_as rfl rfl rfl rfl rfl .nil) ?_
  try refine e_fl ?_
  refine e_list ?_
  refine l_mv ?_
  refine e_calli rfl rfl rfl rfl (by kernel_rfl) (dots_g E8 E9 l hl (p + 1) (by omega)) ⟨rfl, trivial⟩ trivial ⟨(kn rfl), trivial⟩ (QE.tidy) ?_
  rintro _ _ _ (⟨a, b, z, x, rfl, he, rfl, rfl, rfl⟩ | ⟨x, z, he, rfl, rfl, rfl⟩)
  ·refine l_mv ?_
   refine l_ex ?_
   refine l_ex ?_
   refine l_as ?_
   refine l_as ?_
   refine e_nil ?_
   try refine e_fl ?_
   refine e_plain (w_mv rfl rfl rfl rfl rfl (w_mv rfl rfl rfl rfl rfl (w_op rfl rfl rfl (s_bin rfl (kn rfl) (kn rfl) (v_sadd (by first | omega | (simp only [List.length_append, List.length_cons, List.length_nil]; omega)))) (w_mv rfl rfl rfl rfl rfl (w_as rfl rfl rfl rfl rfl (w_as rfl rfl rfl rfl rfl .nil)))))) ?_
   try refine e_fl ?_
   exact e_returnx (pB l z) ([]) rfl (.tmp (kn rfl) (.tmp (kn rfl) (.nil))) (Imp.refl _) ⟨s_b, trivial⟩ trivial (.inl ⟨a, b, z, [46] ++ [], by simp, by rw [hw]; simp [he], rfl, rfl, rfl⟩)
  have hsl := sDots_len hl.toTksOk _ _ _ he
  simp only [List.length_nil] at hsl
  have hst := sDots_ok _ _ _ he
  refine l_mv ?_
  refine l_ex ?_
  refine l_ex ?_
  refine l_as ?_
  refine l_as ?_
  refine e_nil ?_
  try refine e_fl ?_
  refine e_plain (w_mv rfl rfl rfl rfl rfl (w_mv rfl rfl rfl rfl rfl (w_op rfl rfl rfl (s_bin rfl (kn rfl) (kn rfl) (v_sadd (by first | omega | (simp only [List.length_append, List.length_cons, List.length_nil]; omega)))) (w_mv rfl rfl rfl rfl rfl (w_as rfl rfl rfl rfl rfl (w_as rfl rfl rfl rfl rfl .nil)))))) ?_
  try refine e_fl ?_
  exact e_returnx (pB l z) ([]) rfl (.tmp (kn rfl) (.tmp (kn rfl) (.nil))) (Imp.refl _) ⟨s_b, trivial⟩ trivial (.inr ⟨[46] ++ x, z, by rw [hw]; simp [he], rfl, rfl, rfl⟩)
 ·have hw := sDotted_no h
  rw [h]
  try refine e_fl ?_
  refine e_list ?_
  refine l_mv ?_
  refine e_calli rfl rfl rfl rfl (by kernel_rfl) (dots_g E8 E9 l hl (p) (by omega)) ⟨rfl, trivial⟩ trivial ⟨(kn rfl), trivial⟩ (QE.tidy) ?_
  rintro _ _ _ (⟨a, b, z, x, rfl, he, rfl, rfl, rfl⟩ | ⟨x, z, he, rfl, rfl, rfl⟩)
  ·refine l_mv ?_
   refine l_ex ?_
   refine l_ex ?_
   refine l_as ?_
   refine l_as ?_
   refine e_nil ?_
   try refine e_fl ?_
   refine e_plain (w_mv rfl rfl rfl rfl rfl (w_mv rfl rfl rfl rfl rfl (w_op rfl rfl rfl (s_bin rfl (kn rfl) (kn rfl) (v_sadd (by first | omega | (simp only [List.length_append, List.length_cons, List.length_nil]; omega)))) (w_mv rfl rfl rfl rfl rfl (w_as rfl rfl rfl rfl rfl (w_as rfl rfl rfl rfl rfl .nil)))))) ?_
   try refine e_fl ?_
   exact e_returnx (pB l z) ([]) rfl (.tmp (kn rfl) (.tmp (kn rfl) (.nil))) (Imp.refl _) ⟨s_b, trivial⟩ trivial (.inl ⟨a, b, z, [] ++ [], by simp, by rw [hw]; simp [he], rfl, rfl, rfl⟩)
  have hsl := sDots_len hl.toTksOk _ _ _ he
  simp only [List.length_nil] at hsl
  have hst := sDots_ok _ _ _ he
  refine l_mv ?_
  refine l_ex ?_
  refine l_ex ?_
  refine l_as ?_
  refine l_as ?_
  refine e_nil ?_
  try refine e_fl ?_
  refine e_plain (w_mv rfl rfl rfl rfl rfl (w_mv rfl rfl rfl rfl rfl (w_op rfl rfl rfl (s_bin rfl (kn rfl) (kn rfl) (v_sadd (by first | omega | (simp only [List.length_append, List.length_cons, List.length_nil]; omega)))) (w_mv rfl rfl rfl rfl rfl (w_as rfl rfl rfl rfl rfl (w_as rfl rfl rfl rfl rfl .nil)))))) ?_
  try refine e_fl ?_
  exact e_returnx (pB l z) ([]) rfl (.tmp (kn rfl) (.tmp (kn rfl) (.nil))) (Imp.refl _) ⟨s_b, trivial⟩ trivial (.inr ⟨[] ++ x, z, by rw [hw]; simp [he], rfl, rfl, rfl⟩)
def sUpper (l : List Tk) (p : Nat) : Ans8 (Int × Nat) := if tkIs l p 1 [109, 97, 120] then .ok (536870911, p + 1) else sNumber l p
set_option maxRecDepth 100000 in
theorem upper_g (E8 E9 : Er) (l : List Tk) (hl : PTk l) (p : Nat) (hp : p ≤ 100000) : EG Tryd.prog (gE E8 E9) 94 [.box 1 0] (pB l p) [] (QE l E8 E9 (fun _ => True) iP (sUpper l p)) := by
 refine eg_enter 17 Tryd.func94 rfl rfl rfl fun w D bor mb => ?_
 try refine e_fl ?_
 have hll := hl.len
 refine e_plain (w_as rfl rfl rfl rfl rfl (w_as rfl rfl rfl rfl rfl .nil)) ?_
 try refine e_fl ?_
 refine e_list ?_
 refine l_mv ?_
 refine l_op (s_buildSlice (ds := [_]) [(0, _)] rfl ⟨rfl, (kn rfl), trivial⟩ rfl sl_45 sz_9 zr_9 (fun w D => .cons (.cell _) (.nil _ _)) rfl rfl rfl rfl rfl) ?_
 refine e_calli rfl rfl rfl rfl (by kernel_rfl) (take1 _ l hl [109, 97, 120] 1 rfl (by decide) p (by omega)) ⟨rfl, trivial⟩ trivial ⟨(kn rfl), ⟨(kn rfl), trivial⟩⟩ (fun _ _ _ h => PY.tidy h.1 h.2.1 h.2.2) ?_
 rintro _ _ _ ⟨rfl, rfl, rfl⟩
 refine e_nil ?_
 try refine e_fl ?_
 refine e_cond rfl (fun h => ?_) (fun h => ?_)
 ·have hw : sUpper l p = .ok (536870911, p + 1) := if_pos h
  rw [h]
  try refine e_fl ?_
  refine e_plain (w_as rfl rfl rfl rfl rfl (w_as rfl rfl rfl rfl rfl .nil)) ?_
  try refine e_fl ?_
  exact e_returnx (pB l (p + 1)) ([]) rfl (.tmp (kn rfl) (.tmp (kn rfl) (.nil))) (Imp.refl _) ⟨s_b, trivial⟩ trivial (.inr ⟨536870911, p + 1, hw, rfl, rfl, rfl⟩)
 have hw : sUpper l p = sNumber l p := if_neg (by rw [h]; decide)
 rw [h]
 try refine e_fl ?_
 refine e_list ?_
 refine l_mv ?_
 refine e_calli rfl rfl rfl rfl (by kernel_rfl) (token_g E8 E9 l hl.toTksOk p 2 (by omega)) ⟨rfl, trivial⟩ trivial ⟨(kn rfl), ⟨(kn rfl), trivial⟩⟩ (TY.tidy) ?_
 rintro _ _ _ (⟨hk, rfl, rfl, rfl⟩ | ⟨hk, rfl, rfl, rfl⟩)
 ·refine l_mv ?_
  refine l_ex ?_
  refine l_ex ?_
  refine e_alloc 4 [.is (.int .i64 0), .is (.string ⟨#[]⟩), .is (.int .i64 0), .is (.int .i64 0), .is (.int .i64 0)] rfl rfl rfl rfl zr_67 (fun w D M V => ⟨rfl, fun j x v h1 h2 => cfit_is _ h1 h2 rfl⟩) rfl rfl rfl rfl ?_
  refine e_storew rfl rfl rfl (kn rfl) rfl (kn rfl) rfl rfl sz_67 ?_
  refine l_as ?_
  refine e_nil ?_
  try refine e_fl ?_
  refine e_plain (w_op rfl rfl rfl (s_faddr_box rfl (kn rfl) off_67_2) (w_op rfl rfl rfl (s_load1_box rfl (kn rfl) rfl rfl one_3) (w_mv rfl rfl rfl rfl rfl (w_as rfl rfl rfl rfl rfl (w_as rfl rfl rfl rfl rfl .nil))))) ?_
  try refine e_fl ?_
  exact e_returnx (pB l p) ([]) rfl (.tmp (kn rfl) (.tmp (kn rfl) (.nil))) (Imp.refl _) ⟨s_b, trivial⟩ trivial (.inl ⟨p, 9, p, 0, trivial, hw.trans (number_not hk), rfl, rfl, rfl⟩)
 refine l_mv ?_
 refine l_ex ?_
 refine l_ex ?_
 refine e_alloc 4 [.is (.int .i64 0), .is (.string ⟨#[]⟩), .is (.int .i64 0), .is (.int .i64 0), .is (.int .i64 0)] rfl rfl rfl rfl zr_67 (fun w D M V => ⟨rfl, fun j x v h1 h2 => cfit_is _ h1 h2 rfl⟩) rfl rfl rfl rfl ?_
 refine e_storew rfl rfl rfl (kn rfl) rfl (kn rfl) rfl rfl sz_67 ?_
 refine l_as ?_
 refine e_nil ?_
 try refine e_fl ?_
 refine e_plain (w_op rfl rfl rfl (s_faddr_box rfl (kn rfl) off_67_2) (w_op rfl rfl rfl (s_load1_box rfl (kn rfl) rfl rfl one_3) (w_mv rfl rfl rfl rfl rfl (w_as rfl rfl rfl rfl rfl (w_as rfl rfl rfl rfl rfl .nil))))) ?_
 try refine e_fl ?_
 exact e_returnx (pB l (p + 1)) ([]) rfl (.tmp (kn rfl) (.tmp (kn rfl) (.nil))) (Imp.refl _) ⟨s_b, trivial⟩ trivial (.inr ⟨(tkAt l p).1.n, p + 1, hw.trans (number_is hk).2, rfl, rfl, rfl⟩)
end Go.Proofs.YtekeanikgcpijaaDoor
namespace Go.Proofs.YtekeanikgcpijaaDoor
open Go.RowKit
def ME {σ : Type} (l : List Tk) (E8 E9 : Er) (S : σ → Nat → BL) (U : σ → RL) (r : Ans8 (σ × Nat)) (y : IV) (B1 : BL) (R1 : RL) : Prop :=
 (∃ a b z x, r = .error (a, b) ∧ y = .part (fltP l a (erv E8 E9 b)) ∧ B1 = S x z ∧ R1 = U x) ∨ (∃ x z, r = .ok (x, z) ∧ y = .part nilP ∧ B1 = S x z ∧ R1 = U x)
abbrev fX (f : Fld) : Bx := ⟨135, bcs f.dats⟩
abbrev fB (l : List Tk) (f : Fld) (q : Nat) : BL := [(1, pX l q), (2, fX f)]
abbrev FE (l : List Tk) (E8 E9 : Er) (r : Ans8 (Fld × Nat)) (y : IV) (B1 : BL) (R1 : RL) : Prop := ME l E8 E9 (fB l) (fun _ => []) r y B1 R1
theorem FE.tidy {l : List Tk} {E8 E9 : Er} {r : Ans8 (Fld × Nat)} {f : Fld} {q : Nat} (y : IV) (B1 : BL) (R1 : RL) (h : FE l E8 E9 r y B1 R1) : Tidy (fB l f q) [] y B1 R1 := by
 rcases h with ⟨a, b, z, x, _, rfl, rfl, rfl⟩ | ⟨x, z, _, rfl, rfl, rfl⟩ <;> exact ⟨rfl, rfl, rfl, rfl⟩
def sPacked (l : List Tk) (f : Fld) (p : Nat) : Ans8 (Fld × Nat) :=
  match sWant l 4 [61] p with
  | .error e => .error e
  | .ok q =>
   if tkIs l q 1 [116, 114, 117, 101] then .ok ({ f with packed := 1 }, q + 1)
   else if tkIs l q 1 [102, 97, 108, 115, 101] then .ok ({ f with packed := 2 }, q + 1)
   else form8 q
def sKey (l : List Tk) (f : Fld) (p : Nat) : Ans8 (Fld × Nat) :=
  match sWant l 4 [61] p with
  | .error e => .error e
  | .ok q =>
   match sName l q with
   | .error e => .error e
   | .ok (x, r) => .ok ({ f with key := x.1.t }, r)
theorem want1_g (E8 E9 : Er) (l : List Tk) (hl : PTk l) (k : Nat) (t : List UInt8) (hk : kindT t = k) (hws : t ∈ ws) (q : Nat) (hq : q ≤ 120000) :
  EG Tryd.prog (gE E8 E9) 31 [.box 1 0, .part (txsP [t])] (pB l q) [] (PE l E8 E9 (sWant l k t q)) := by
 have h := want_g E8 E9 l hl [t] (by simp) (by simpa using hws) q hq
 rw [sWants_one, hk] at h
 exact h
set_option maxRecDepth 100000 in
theorem packed_g (E8 E9 : Er) (l : List Tk) (hl : PTk l) (f : Fld) (p : Nat) (hp : p ≤ 100001) : EG Tryd.prog (gE E8 E9) 97 [.box 1 0, .box 2 0] (fB l f p) [] (FE l E8 E9 (sPacked l f p)) := by
 refine eg_enter 28 Tryd.func97 rfl rfl rfl fun w D bor mb => ?_
 try refine e_fl ?_
 have hll := hl.len
 refine e_plain (w_as rfl rfl rfl rfl rfl .nil) ?_
 try refine e_fl ?_
 refine e_list ?_
 refine l_mv ?_
 refine l_op (s_buildSlice (ds := [_]) [(0, _)] rfl ⟨rfl, (kn rfl), trivial⟩ rfl sl_45 sz_9 zr_9 (fun w D => .cons (.cell _) (.nil _ _)) rfl rfl rfl rfl rfl) ?_
 refine e_calli rfl rfl rfl rfl (by kernel_rfl) (want1_g E8 E9 l hl 4 [61] rfl (by decide) p (by omega)) ⟨rfl, trivial⟩ trivial ⟨(kn rfl), ⟨(kn rfl), trivial⟩⟩ (PE.tidy) ?_
 rintro _ _ _ (⟨a, b, z, he, rfl, rfl, rfl⟩ | ⟨q, ho, rfl, rfl, rfl⟩)
 ·refine l_as ?_
  refine e_nil ?_
  try refine e_fl ?_
  refine e_plain (w_mv rfl rfl rfl rfl rfl (w_op rfl rfl rfl (s_err_neq rfl (kn rfl) rfl ifc_30) .nil)) ?_
  try refine e_fl ?_
  refine c_yes ?_
  try refine e_fl ?_
  refine e_plain (w_mv rfl rfl rfl rfl rfl (w_as rfl rfl rfl rfl rfl .nil)) ?_
  try refine e_fl ?_
  exact e_returnx (fB l f z) ([]) rfl (.tmp (kn rfl) (.nil)) (Imp.refl _) ⟨s_b, s_b, trivial⟩ trivial (.inl ⟨a, b, z, f, by simp only [sPacked, he], rfl, rfl, rfl⟩)
 refine l_as ?_
 refine e_nil ?_
 try refine e_fl ?_
 refine e_plain (w_mv rfl rfl rfl rfl rfl (w_op rfl rfl rfl (s_nil_neq rfl (kn rfl) ifc_30) .nil)) ?_
 try refine e_fl ?_
 refine c_no ?_
 try refine e_fl ?_
 have ho1 := sWant_ok ho
 refine e_list ?_
 refine l_mv ?_
 refine l_op (s_buildSlice (ds := [_]) [(0, _)] rfl ⟨rfl, (kn rfl), trivial⟩ rfl sl_45 sz_9 zr_9 (fun w D => .cons (.cell _) (.nil _ _)) rfl rfl rfl rfl rfl) ?_
 refine e_calli rfl rfl rfl rfl (by kernel_rfl) (take1 _ l hl [116, 114, 117, 101] 1 rfl (by decide) q (by omega)) ⟨rfl, trivial⟩ trivial ⟨(kn rfl), ⟨(kn rfl), trivial⟩⟩ (fun _ _ _ h => PY.tidy h.1 h.2.1 h.2.2) ?_
 rintro _ _ _ ⟨rfl, rfl, rfl⟩
 refine l_as ?_
 refine e_nil ?_
 try refine e_fl ?_
 refine e_cond rfl (fun h => ?_) (fun h => ?_)
 ·rw [h]
  try refine e_fl ?_
  refine e_list ?_
  refine l_mv ?_
  refine l_op (s_nil_box rfl (kn rfl)) ?_
  refine l_op (s_faddr_box rfl (kn rfl) off_135_6) ?_
  refine e_store1 rfl rfl rfl (kn rfl) rfl (kn rfl) rfl rfl sz_3 rfl ?_
  refine e_nil ?_
  try refine e_fl ?_
  refine e_plain (w_as rfl rfl rfl rfl rfl .nil) ?_
  try refine e_fl ?_
  exact e_returnx (fB l { f with packed := 1 } (q + 1)) ([]) rfl (.tmp (kn rfl) (.nil)) (Imp.refl _) ⟨s_b, s_b, trivial⟩ trivial (.inr ⟨{ f with packed := 1 }, q + 1, by simp only [sPacked, ho, h, if_true], rfl, rfl, rfl⟩)
 rw [h]
 try refine e_fl ?_
 refine e_list ?_
 refine l_mv ?_
 refine l_op (s_buildSlice (ds := [_]) [(0, _)] rfl ⟨rfl, (kn rfl), trivial⟩ rfl sl_45 sz_9 zr_9 (fun w D => .cons (.cell _) (.nil _ _)) rfl rfl rfl rfl rfl) ?_
 refine e_calli rfl rfl rfl rfl (by kernel_rfl) (take1 _ l hl [102, 97, 108, 115, 101] 1 rfl (by decide) q (by omega)) ⟨rfl, trivial⟩ trivial ⟨(kn rfl), ⟨(kn rfl), trivial⟩⟩ (fun _ _ _ h => PY.tidy h.1 h.2.1 h.2.2) ?_
 rintro _ _ _ ⟨rfl, rfl, rfl⟩
 refine l_as ?_
 refine e_nil ?_
 try refine e_fl ?_
 refine e_cond rfl (fun h1 => ?_) (fun h1 => ?_)
 ·rw [h1]
  try refine e_fl ?_
  refine e_list ?_
  refine l_mv ?_
  refine l_op (s_nil_box rfl (kn rfl)) ?_
  refine l_op (s_faddr_box rfl (kn rfl) off_135_6) ?_
  refine e_store1 rfl rfl rfl (kn rfl) rfl (kn rfl) rfl rfl sz_3 rfl ?_
  refine e_nil ?_
  try refine e_fl ?_
  refine e_plain (w_as rfl rfl rfl rfl rfl .nil) ?_
  try refine e_fl ?_
  exact e_returnx (fB l { f with packed := 2 } (q + 1)) ([]) rfl (.tmp (kn rfl) (.nil)) (Imp.refl _) ⟨s_b, s_b, trivial⟩ trivial (.inr ⟨{ f with packed := 2 }, q + 1, by simp only [sPacked, ho, h, h1, if_true]; rfl, rfl, rfl, rfl⟩)
 rw [h1]
 try refine e_fl ?_
 refine e_list ?_
 refine l_mv ?_
 refine e_calli rfl rfl rfl rfl (by kernel_rfl) (misfit_g E8 E9 l hl.toTksOk q (by omega)) ⟨rfl, trivial⟩ trivial ⟨(kn rfl), trivial⟩ (fun _ _ _ h => PY.tidy h.1 h.2.1 h.2.2) ?_
 rintro _ _ _ ⟨rfl, rfl, rfl⟩
 refine l_as ?_
 refine e_nil ?_
 try refine e_fl ?_
 exact e_returnx (fB l f q) ([]) rfl (.tmp (kn rfl) (.nil)) (Imp.refl _) ⟨s_b, s_b, trivial⟩ trivial (.inl ⟨q, 9, q, f, by simp only [sPacked, ho, h, h1]; rfl, rfl, rfl, rfl⟩)
set_option maxRecDepth 100000 in
theorem key_g (E8 E9 : Er) (l : List Tk) (hl : PTk l) (f : Fld) (p : Nat) (hp : p ≤ 100001) : EG Tryd.prog (gE E8 E9) 98 [.box 1 0, .box 2 0] (fB l f p) [] (FE l E8 E9 (sKey l f p)) := by
 refine eg_enter 27 Tryd.func98 rfl rfl rfl fun w D bor mb => ?_
 try refine e_fl ?_
 have hll := hl.len
 refine e_plain (w_as rfl rfl rfl rfl rfl .nil) ?_
 try refine e_fl ?_
 refine e_list ?_
 refine l_mv ?_
 refine l_op (s_buildSlice (ds := [_]) [(0, _)] rfl ⟨rfl, (kn rfl), trivial⟩ rfl sl_45 sz_9 zr_9 (fun w D => .cons (.cell _) (.nil _ _)) rfl rfl rfl rfl rfl) ?_
 refine e_calli rfl rfl rfl rfl (by kernel_rfl) (want1_g E8 E9 l hl 4 [61] rfl (by decide) p (by omega)) ⟨rfl, trivial⟩ trivial ⟨(kn rfl), ⟨(kn rfl), trivial⟩⟩ (PE.tidy) ?_
 rintro _ _ _ (⟨a, b, z, he, rfl, rfl, rfl⟩ | ⟨q, ho, rfl, rfl, rfl⟩)
 ·refine l_as ?_
  refine e_nil ?_
  try refine e_fl ?_
  refine e_plain (w_mv rfl rfl rfl rfl rfl (w_op rfl rfl rfl (s_err_neq rfl (kn rfl) rfl ifc_30) .nil)) ?_
  try refine e_fl ?_
  refine c_yes ?_
  try refine e_fl ?_
  refine e_plain (w_mv rfl rfl rfl rfl rfl (w_as rfl rfl rfl rfl rfl .nil)) ?_
  try refine e_fl ?_
  exact e_returnx (fB l f z) ([]) rfl (.tmp (kn rfl) (.nil)) (Imp.refl _) ⟨s_b, s_b, trivial⟩ trivial (.inl ⟨a, b, z, f, by simp only [sKey, he], rfl, rfl, rfl⟩)
 refine l_as ?_
 refine e_nil ?_
 try refine e_fl ?_
 refine e_plain (w_mv rfl rfl rfl rfl rfl (w_op rfl rfl rfl (s_nil_neq rfl (kn rfl) ifc_30) .nil)) ?_
 try refine e_fl ?_
 refine c_no ?_
 try refine e_fl ?_
 have ho1 := sWant_ok ho
 refine e_list ?_
 refine l_mv ?_
 refine e_calli rfl rfl rfl rfl (by kernel_rfl) (token_g E8 E9 l hl.toTksOk (q) 1 (by omega)) ⟨rfl, trivial⟩ trivial ⟨(kn rfl), ⟨(kn rfl), trivial⟩⟩ (TY.tidy) ?_
 rintro _ _ _ (⟨hk, rfl, rfl, rfl⟩ | ⟨hk, rfl, rfl, rfl⟩)
 ·refine l_mv ?_
  refine l_ex ?_
  refine l_ex ?_
  refine e_alloc 6 [.is (.int .i64 0), .is (.string ⟨#[]⟩), .is (.int .i64 0), .is (.int .i64 0), .is (.int .i64 0)] rfl rfl rfl rfl zr_67 (fun w D M V => ⟨rfl, fun j x v h1 h2 => cfit_is _ h1 h2 rfl⟩) rfl rfl rfl rfl ?_
  refine e_storew rfl rfl rfl (kn rfl) rfl (kn rfl) rfl rfl sz_67 ?_
  refine l_as ?_
  refine e_nil ?_
  try refine e_fl ?_
  refine e_plain (w_mv rfl rfl rfl rfl rfl (w_op rfl rfl rfl (s_err_neq rfl (kn rfl) rfl ifc_30) .nil)) ?_
  try refine e_fl ?_
  refine c_yes ?_
  try refine e_fl ?_
  refine e_plain (w_mv rfl rfl rfl rfl rfl (w_as rfl rfl rfl rfl rfl .nil)) ?_
  try refine e_fl ?_
  exact e_returnx (fB l f q) ([]) rfl (.tmp (kn rfl) (.nil)) (Imp.refl _) ⟨s_b, s_b, trivial⟩ trivial (.inl ⟨q, 9, q, f, by simp only [sKey, ho, name_not hk], rfl, rfl, rfl⟩)
 refine l_mv ?_
 refine l_ex ?_
 refine l_ex ?_
 refine e_alloc 6 [.is (.int .i64 0), .is (.string ⟨#[]⟩), .is (.int .i64 0), .is (.int .i64 0), .is (.int .i64 0)] rfl rfl rfl rfl zr_67 (fun w D M V => ⟨rfl, fun j x v h1 h2 => cfit_is _ h1 h2 rfl⟩) rfl rfl rfl rfl ?_
 refine e_storew rfl rfl rfl (kn rfl) rfl (kn rfl) rfl rfl sz_67 ?_
 refine l_as ?_
 refine e_nil ?_
 try refine e_fl ?_
 refine e_plain (w_mv rfl rfl rfl rfl rfl (w_op rfl rfl rfl (s_nil_neq rfl (kn rfl) ifc_30) .nil)) ?_
 try refine e_fl ?_
 refine c_no ?_
 try refine e_fl ?_
 refine e_list ?_
 refine l_mv ?_
 refine l_op (s_faddr_box rfl (kn rfl) off_67_1) ?_
 refine l_op (s_load1_box rfl (kn rfl) rfl rfl one_9) ?_
 refine l_op (s_nil_box rfl (kn rfl)) ?_
 refine l_op (s_faddr_box rfl (kn rfl) off_135_3) ?_
 refine e_store1 rfl rfl rfl (kn rfl) rfl (kn rfl) rfl rfl sz_9 rfl ?_
 refine e_nil ?_
 try refine e_fl ?_
 refine e_plain (w_as rfl rfl rfl rfl rfl .nil) ?_
 try refine e_fl ?_
 exact e_returnx (fB l { f with key := (tkAt l q).1.t } (q + 1)) ([]) rfl (.tmp (kn rfl) (.nil)) (Imp.refl _) ⟨s_b, s_b, trivial⟩ trivial (.inr ⟨{ f with key := (tkAt l q).1.t }, q + 1, by simp only [sKey, ho, (name_is hk).2], rfl, rfl, rfl⟩)
end Go.Proofs.YtekeanikgcpijaaDoor
namespace Go.Proofs.YtekeanikgcpijaaDoor
open Go.RowKit
theorem sOption_eq (l : List Tk) (f : Fld) (p : Nat) : sOption l f p = if tkIs l p 1 [112, 97, 99, 107, 101, 100] && decide (f.packed = 0) then sPacked l f (p + 1) else if tkIs l p 1 [107, 101, 121] && decide (f.key = []) then sKey l f (p + 1) else form8 p := rfl
set_option maxRecDepth 100000 in
set_option maxHeartbeats 1000000 in
theorem option_g (E8 E9 : Er) (l : List Tk) (hl : PTk l) (f : Fld) (p : Nat) (hp : p ≤ 100000) : EG Tryd.prog (gE E8 E9) 96 [.box 1 0, .box 2 0] (fB l f p) [] (FE l E8 E9 (sOption l f p)) := by
 refine eg_enter 35 Tryd.func96 rfl rfl rfl fun w D bor mb => ?_
 try refine e_fl ?_
 have hll := hl.len
 refine e_plain (w_as rfl rfl rfl rfl rfl .nil) ?_
 try refine e_fl ?_
 refine e_list ?_
 refine l_mv ?_
 refine l_op (s_nil_box rfl (kn rfl)) ?_
 refine l_op (s_faddr_box rfl (kn rfl) off_135_6) ?_
 refine l_op (s_load1_box rfl (kn rfl) rfl rfl one_3) ?_
 refine l_op (s_bin rfl (kn rfl) (kn rfl) v_eql) ?_
 refine l_mv ?_
 refine e_list_gd rfl rfl rfl (fun h => s_move rfl (kn rfl)) ?_
 refine e_list_gd rfl rfl rfl (fun h => s_buildSlice (ds := [_]) [(0, _)] rfl ⟨rfl, (kn rfl), trivial⟩ rfl sl_45 sz_9 zr_9 (fun w D => .cons (.cell _) (.nil _ _)) rfl rfl rfl rfl rfl) ?_
 refine e_guard rfl rfl rfl (fun h => ?_) (fun h => ?_)
 ·refine e_calli rfl rfl rfl rfl (by kernel_rfl) (take1 _ l hl [112, 97, 99, 107, 101, 100] 1 rfl (by decide) p (by omega)) ⟨rfl, trivial⟩ trivial ⟨(kn_opt rfl h), ⟨(kn_opt rfl h), trivial⟩⟩ (fun _ _ _ h => PY.tidy h.1 h.2.1 h.2.2) ?_
  rintro _ _ _ ⟨rfl, rfl, rfl⟩
  refine l_op (s_and rfl (kn rfl) (fun _ => kn rfl)) ?_
  refine l_as ?_
  refine e_nil ?_
  try refine e_fl ?_
  refine e_cond rfl (fun hc => ?_) (fun hc => ?_)
  ·have h2 : tkIs l p 1 [112, 97, 99, 107, 101, 100] = true := (Bool.and_eq_true _ _ ▸ hc).2
   have hlt := tkIs_lt h2
   have hw : sOption l f p = sPacked l f (p + 1) := by rw [sOption_eq, h2, h]; rfl
   rw [h2]
   try refine e_fl ?_
   refine e_list ?_
   refine l_mv ?_
   refine l_mv ?_
   refine e_calli rfl rfl rfl rfl (by kernel_rfl) (packed_g E8 E9 l hl f (p + 1) (by omega)) ⟨rfl, rfl, trivial⟩ trivial ⟨(kn rfl), ⟨(kn rfl), trivial⟩⟩ (FE.tidy) ?_
   rintro _ _ _ (⟨a, b, z, g, he, rfl, rfl, rfl⟩ | ⟨g, z, ho, rfl, rfl, rfl⟩)
   ·refine l_as ?_
    refine e_nil ?_
    try refine e_fl ?_
    exact e_returnx (fB l g z) ([]) rfl (.tmp (kn rfl) (.nil)) (Imp.refl _) ⟨s_b, s_b, trivial⟩ trivial (.inl ⟨a, b, z, g, hw.trans he, rfl, rfl, rfl⟩)
   ·refine l_as ?_
    refine e_nil ?_
    try refine e_fl ?_
    exact e_returnx (fB l g z) ([]) rfl (.tmp (kn rfl) (.nil)) (Imp.refl _) ⟨s_b, s_b, trivial⟩ trivial (.inr ⟨g, z, hw.trans ho, rfl, rfl, rfl⟩)
  ·have h2 : tkIs l p 1 [112, 97, 99, 107, 101, 100] = false := by
    rw [h, Bool.true_and] at hc
    exact hc
   have hnp : (tkIs l p 1 [112, 97, 99, 107, 101, 100] && decide (f.packed = 0)) = false := by rw [h2]; rfl
   rw [h2]
   try refine e_fl ?_
   refine e_list ?_
   refine l_mv ?_
   refine l_op (s_nil_box rfl (kn rfl)) ?_
   refine l_op (s_faddr_box rfl (kn rfl) off_135_3) ?_
   refine l_op (s_load1_box rfl (kn rfl) rfl rfl one_9) ?_
   refine l_op (s_bin rfl (kn rfl) (kn rfl) (v_seql (b := []))) ?_
   refine l_mv ?_
   refine e_list_gd rfl rfl rfl (fun h => s_move rfl (kn rfl)) ?_
   refine e_list_gd rfl rfl rfl (fun h => s_buildSlice (ds := [_]) [(0, _)] rfl ⟨rfl, (kn rfl), trivial⟩ rfl sl_45 sz_9 zr_9 (fun w D => .cons (.cell _) (.nil _ _)) rfl rfl rfl rfl rfl) ?_
   refine e_guard rfl rfl rfl (fun h => ?_) (fun h => ?_)
   ·refine e_calli rfl rfl rfl rfl (by kernel_rfl) (take1 _ l hl [107, 101, 121] 1 rfl (by decide) p (by omega)) ⟨rfl, trivial⟩ trivial ⟨(kn_opt rfl h), ⟨(kn_opt rfl h), trivial⟩⟩ (fun _ _ _ h => PY.tidy h.1 h.2.1 h.2.2) ?_
    rintro _ _ _ ⟨rfl, rfl, rfl⟩
    refine l_op (s_and rfl (kn rfl) (fun _ => kn rfl)) ?_
    refine l_as ?_
    refine e_nil ?_
    try refine e_fl ?_
    refine e_cond rfl (fun hc => ?_) (fun hc => ?_)
    ·have h2 : tkIs l p 1 [107, 101, 121] = true := (Bool.and_eq_true _ _ ▸ hc).2
     have hlt := tkIs_lt h2
     have hw : sOption l f p = sKey l f (p + 1) := by rw [sOption_eq, hnp, if_neg (by decide), h2, h]; rfl
     rw [h2]
     try refine e_fl ?_
     refine e_list ?_
     refine l_mv ?_
     refine l_mv ?_
     refine e_calli rfl rfl rfl rfl (by kernel_rfl) (key_g E8 E9 l hl f (p + 1) (by omega)) ⟨rfl, rfl, trivial⟩ trivial ⟨(kn rfl), ⟨(kn rfl), trivial⟩⟩ (FE.tidy) ?_
     rintro _ _ _ (⟨a, b, z, g, he, rfl, rfl, rfl⟩ | ⟨g, z, ho, rfl, rfl, rfl⟩)
     ·refine l_as ?_
      refine e_nil ?_
      try refine e_fl ?_
      exact e_returnx (fB l g z) ([]) rfl (.tmp (kn rfl) (.nil)) (Imp.refl _) ⟨s_b, s_b, trivial⟩ trivial (.inl ⟨a, b, z, g, hw.trans he, rfl, rfl, rfl⟩)
     ·refine l_as ?_
      refine e_nil ?_
      try refine e_fl ?_
      exact e_returnx (fB l g z) ([]) rfl (.tmp (kn rfl) (.nil)) (Imp.refl _) ⟨s_b, s_b, trivial⟩ trivial (.inr ⟨g, z, hw.trans ho, rfl, rfl, rfl⟩)
    ·have h2 : tkIs l p 1 [107, 101, 121] = false := by
      rw [h, Bool.true_and] at hc
      exact hc
     have hw : sOption l f p = .error (p, 9) := by rw [sOption_eq, hnp, if_neg (by decide), h2]; rfl
     rw [h2]
     try refine e_fl ?_
     refine e_list ?_
     refine l_mv ?_
     refine e_calli rfl rfl rfl rfl (by kernel_rfl) (misfit_g E8 E9 l hl.toTksOk p (by omega)) ⟨rfl, trivial⟩ trivial ⟨(kn rfl), trivial⟩ (fun _ _ _ h => PY.tidy h.1 h.2.1 h.2.2) ?_
     rintro _ _ _ ⟨rfl, rfl, rfl⟩
     refine l_as ?_
     refine e_nil ?_
     try refine e_fl ?_
     exact e_returnx (fB l f p) ([]) rfl (.tmp (kn rfl) (.nil)) (Imp.refl _) ⟨s_b, s_b, trivial⟩ trivial (.inl ⟨p, 9, p, f, hw, rfl, rfl, rfl⟩)
   ·have hw : sOption l f p = .error (p, 9) := by rw [sOption_eq, hnp, if_neg (by decide), h, Bool.and_false]; rfl
    refine l_op (s_and (b := false) rfl (kn rfl) (fun hb => absurd (hb.symm.trans h) (by decide))) ?_
    refine l_as ?_
    refine e_nil ?_
    try refine e_fl ?_
    refine e_cond rfl (fun hc => ?_) (fun hc => ?_)
    ·rw [Bool.and_false] at hc
     cases hc
    try refine e_fl ?_
    refine e_list ?_
    refine l_mv ?_
    refine e_calli rfl rfl rfl rfl (by kernel_rfl) (misfit_g E8 E9 l hl.toTksOk p (by omega)) ⟨rfl, trivial⟩ trivial ⟨(kn rfl), trivial⟩ (fun _ _ _ h => PY.tidy h.1 h.2.1 h.2.2) ?_
    rintro _ _ _ ⟨rfl, rfl, rfl⟩
    refine l_as ?_
    refine e_nil ?_
    try refine e_fl ?_
    exact e_returnx (fB l f p) ([]) rfl (.tmp (kn rfl) (.nil)) (Imp.refl _) ⟨s_b, s_b, trivial⟩ trivial (.inl ⟨p, 9, p, f, hw, rfl, rfl, rfl⟩)
 ·have hnp : (tkIs l p 1 [112, 97, 99, 107, 101, 100] && decide (f.packed = 0)) = false := by rw [h, Bool.and_false]
  refine l_op (s_and (b := false) rfl (kn rfl) (fun hb => absurd (hb.symm.trans h) (by decide))) ?_
  refine l_as ?_
  refine e_nil ?_
  try refine e_fl ?_
  refine e_cond rfl (fun hc => ?_) (fun hc => ?_)
  ·rw [Bool.and_false] at hc
   cases hc
  try refine e_fl ?_
  refine e_list ?_
  refine l_mv ?_
  refine l_op (s_nil_box rfl (kn rfl)) ?_
  refine l_op (s_faddr_box rfl (kn rfl) off_135_3) ?_
  refine l_op (s_load1_box rfl (kn rfl) rfl rfl one_9) ?_
  refine l_op (s_bin rfl (kn rfl) (kn rfl) (v_seql (b := []))) ?_
  refine l_mv ?_
  refine e_list_gd rfl rfl rfl (fun h => s_move rfl (kn rfl)) ?_
  refine e_list_gd rfl rfl rfl (fun h => s_buildSlice (ds := [_]) [(0, _)] rfl ⟨rfl, (kn rfl), trivial⟩ rfl sl_45 sz_9 zr_9 (fun w D => .cons (.cell _) (.nil _ _)) rfl rfl rfl rfl rfl) ?_
  refine e_guard rfl rfl rfl (fun h => ?_) (fun h => ?_)
  ·refine e_calli rfl rfl rfl rfl (by kernel_rfl) (take1 _ l hl [107, 101, 121] 1 rfl (by decide) p (by omega)) ⟨rfl, trivial⟩ trivial ⟨(kn_opt rfl h), ⟨(kn_opt rfl h), trivial⟩⟩ (fun _ _ _ h => PY.tidy h.1 h.2.1 h.2.2) ?_
   rintro _ _ _ ⟨rfl, rfl, rfl⟩
   refine l_op (s_and rfl (kn rfl) (fun _ => kn rfl)) ?_
   refine l_as ?_
   refine e_nil ?_
   try refine e_fl ?_
   refine e_cond rfl (fun hc => ?_) (fun hc => ?_)
   ·have h2 : tkIs l p 1 [107, 101, 121] = true := (Bool.and_eq_true _ _ ▸ hc).2
    have hlt := tkIs_lt h2
    have hw : sOption l f p = sKey l f (p + 1) := by rw [sOption_eq, hnp, if_neg (by decide), h2, h]; rfl
    rw [h2]
    try refine e_fl ?_
    refine e_list ?_
    refine l_mv ?_
    refine l_mv ?_
    refine e_calli rfl rfl rfl rfl (by kernel_rfl) (key_g E8 E9 l hl f (p + 1) (by omega)) ⟨rfl, rfl, trivial⟩ trivial ⟨(kn rfl), ⟨(kn rfl), trivial⟩⟩ (FE.tidy) ?_
    rintro _ _ _ (⟨a, b, z, g, he, rfl, rfl, rfl⟩ | ⟨g, z, ho, rfl, rfl, rfl⟩)
    ·refine l_as ?_
     refine e_nil ?_
     try refine e_fl ?_
     exact e_returnx (fB l g z) ([]) rfl (.tmp (kn rfl) (.nil)) (Imp.refl _) ⟨s_b, s_b, trivial⟩ trivial (.inl ⟨a, b, z, g, hw.trans he, rfl, rfl, rfl⟩)
    ·refine l_as ?_
     refine e_nil ?_
     try refine e_fl ?_
     exact e_returnx (fB l g z) ([]) rfl (.tmp (kn rfl) (.nil)) (Imp.refl _) ⟨s_b, s_b, trivial⟩ trivial (.inr ⟨g, z, hw.trans ho, rfl, rfl, rfl⟩)
   ·have h2 : tkIs l p 1 [107, 101, 121] = false := by
     rw [h, Bool.true_and] at hc
     exact hc
    have hw : sOption l f p = .error (p, 9) := by rw [sOption_eq, hnp, if_neg (by decide), h2]; rfl
    rw [h2]
    try refine e_fl ?_
    refine e_list ?_
    refine l_mv ?_
    refine e_calli rfl rfl rfl rfl (by kernel_rfl) (misfit_g E8 E9 l hl.toTksOk p (by omega)) ⟨rfl, trivial⟩ trivial ⟨(kn rfl), trivial⟩ (fun _ _ _ h => PY.tidy h.1 h.2.1 h.2.2) ?_
    rintro _ _ _ ⟨rfl, rfl, rfl⟩
    refine l_as ?_
    refine e_nil ?_
    try refine e_fl ?_
    exact e_returnx (fB l f p) ([]) rfl (.tmp (kn rfl) (.nil)) (Imp.refl _) ⟨s_b, s_b, trivial⟩ trivial (.inl ⟨p, 9, p, f, hw, rfl, rfl, rfl⟩)
  ·have hw : sOption l f p = .error (p, 9) := by rw [sOption_eq, hnp, if_neg (by decide), h, Bool.and_false]; rfl
   refine l_op (s_and (b := false) rfl (kn rfl) (fun hb => absurd (hb.symm.trans h) (by decide))) ?_
   refine l_as ?_
   refine e_nil ?_
   try refine e_fl ?_
   refine e_cond rfl (fun hc => ?_) (fun hc => ?_)
   ·rw [Bool.and_false] at hc
    cases hc
   try refine e_fl ?_
   refine e_list ?_
   refine l_mv ?_
   refine e_calli rfl rfl rfl rfl (by kernel_rfl) (misfit_g E8 E9 l hl.toTksOk p (by omega)) ⟨rfl, trivial⟩ trivial ⟨(kn rfl), trivial⟩ (fun _ _ _ h => PY.tidy h.1 h.2.1 h.2.2) ?_
   rintro _ _ _ ⟨rfl, rfl, rfl⟩
   refine l_as ?_
   refine e_nil ?_
   try refine e_fl ?_
   exact e_returnx (fB l f p) ([]) rfl (.tmp (kn rfl) (.nil)) (Imp.refl _) ⟨s_b, s_b, trivial⟩ trivial (.inl ⟨p, 9, p, f, hw, rfl, rfl, rfl⟩)
abbrev ptX : Bx := ⟨86, [.box 1 0]⟩
abbrev fB4 (l : List Tk) (f : Fld) (q : Nat) : BL := [(4, ptX), (1, pX l q), (2, fX f)]
abbrev FE4 (l : List Tk) (E8 E9 : Er) (r : Ans8 (Fld × Nat)) (y : IV) (B1 : BL) (R1 : RL) : Prop := ME l E8 E9 (fB4 l) (fun _ => []) r y B1 R1
theorem FE4.tidy {l : List Tk} {E8 E9 : Er} {r : Ans8 (Fld × Nat)} {f : Fld} {q : Nat} (y : IV) (B1 : BL) (R1 : RL) (h : FE4 l E8 E9 r y B1 R1) : Tidy (fB4 l f q) [] y B1 R1 := by
 rcases h with ⟨a, b, z, x, _, rfl, rfl, rfl⟩ | ⟨x, z, _, rfl, rfl, rfl⟩ <;> exact ⟨rfl, rfl, rfl, rfl⟩
set_option maxRecDepth 100000 in
theorem named1_g (E8 E9 : Er) (l : List Tk) (hl : PTk l) (f : Fld) (p : Nat) (hp : p ≤ 100000) : EG Tryd.prog (gE E8 E9) 95 [.box 4 0, .box 2 0] (fB4 l f p) [] (FE4 l E8 E9 (sOption l f p)) := by
 refine eg_enter 5 Tryd.func95 rfl rfl rfl fun w D bor mb => ?_
 try refine e_fl ?_
 refine e_plain (w_as rfl rfl rfl rfl rfl .nil) ?_
 try refine e_fl ?_
 refine e_list ?_
 refine l_op (s_load1_box rfl (kn rfl) rfl rfl one_86) ?_
 refine e_calli rfl rfl rfl rfl (by kernel_rfl) (option_g E8 E9 l hl f p hp) ⟨rfl, rfl, trivial⟩ trivial ⟨(kn rfl), ⟨(kn rfl), trivial⟩⟩ (FE.tidy) ?_
 rintro _ _ _ (⟨a, b, z, g, he, rfl, rfl, rfl⟩ | ⟨g, z, ho, rfl, rfl, rfl⟩)
 ·refine l_as ?_
  refine e_nil ?_
  try refine e_fl ?_
  exact e_returnx (fB4 l g z) ([]) rfl (.tmp (kn rfl) (.nil)) (Imp.refl _) ⟨s_b, s_b, s_b, trivial⟩ trivial (.inl ⟨a, b, z, g, he, rfl, rfl, rfl⟩)
 ·refine l_as ?_
  refine e_nil ?_
  try refine e_fl ?_
  exact e_returnx (fB4 l g z) ([]) rfl (.tmp (kn rfl) (.nil)) (Imp.refl _) ⟨s_b, s_b, s_b, trivial⟩ trivial (.inr ⟨g, z, ho, rfl, rfl, rfl⟩)
def sRow (l : List Tk) : Nat → Fld → Nat → Ans8 (Fld × Nat)
 | 0, _, p => form8 p
 | n + 1, f, p =>
  match sOption l f p with
  | .error e => .error e
  | .ok (g, q) =>
   if tkIs l q 4 [44] then sRow l n g (q + 1)
   else
    match sWant l 4 [93] q with
    | .error e => .error e
    | .ok r => .ok (g, r)
theorem sOpts_row (l : List Tk) : ∀ (n : Nat) (f : Fld) (p : Nat), 1 ≤ n → sOpts l n f p = (match sRow l n f (p + 1) with | .error e => .error e | .ok (g, r) => match sWant l 4 [59] r with | .error e => .error e | .ok s => .ok (g, s)) ∨ n + p < l.length + 1
 | 0, _, _, h => by omega
 | n + 1, f, p, _ => by
  rw [sOpts, sRow]
  cases h1 : sOption l f (p + 1) with
  | error e => exact .inl rfl
  | ok x =>
   obtain ⟨g, q⟩ := x
   have h2 := sOption_ok h1
   dsimp only
   split
   ·rename_i h3
    have h4 := tkIs_lt h3
    rcases Nat.eq_zero_or_pos n with h0 | h0
    ·right
     omega
    ·rcases sOpts_row l n g q h0 with h5 | h5
     ·exact .inl h5
     ·right
      omega
   ·left
    cases sWant l 4 [93] q <;> rfl
end Go.Proofs.YtekeanikgcpijaaDoor
namespace Go.Proofs.YtekeanikgcpijaaDoor
open Go.RowKit
def Msg.name : Msg → List UInt8
 | .mk x _ _ _ _ _ _ _ _ => x
def Msg.fields : Msg → List Fld
 | .mk _ x _ _ _ _ _ _ _ => x
def Msg.msgs : Msg → List Msg
 | .mk _ _ _ x _ _ _ _ _ => x
def Msg.enums : Msg → List Enm
 | .mk _ _ _ _ x _ _ _ _ => x
def Msg.reserved : Msg → List (Int × Int)
 | .mk _ _ _ _ _ x _ _ _ => x
def Msg.names : Msg → List (List UInt8)
 | .mk _ _ _ _ _ _ x _ _ => x
def Msg.line : Msg → Int
 | .mk _ _ _ _ _ _ _ x _ => x
def Msg.col : Msg → Int
 | .mk _ _ _ _ _ _ _ _ x => x
def md (m : Msg) : List Dat := [.cell (.string (str m.name)), .row 10 m.fields.length (m.fields.flatMap Fld.dats), .row 1 m.oneofs.length (m.oneofs.flatMap textDats), .row 9 m.msgs.length (m.msgs.flatMap Msg.dats), .row 4 m.enums.length (m.enums.flatMap Enm.dats), .row 2 m.reserved.length (m.reserved.flatMap rangeDats), .row 1 m.names.length (m.names.flatMap textDats), .cell (.int .i64 m.line), .cell (.int .i64 m.col)]
theorem dats_md (m : Msg) : m.dats = md m := by
 cases m
 exact Msg.dats_mk _ _ _ _ _ _ _ _ _
def Small (m : Msg) (z : Nat) : Prop := m.fields.length ≤ z ∧ m.oneofs.length ≤ z ∧ m.msgs.length ≤ z ∧ m.enums.length ≤ z ∧ m.reserved.length ≤ z ∧ m.names.length ≤ z
theorem Small.mono {m : Msg} {y z : Nat} (h : Small m y) (hz : y ≤ z) : Small m z := ⟨Nat.le_trans h.1 hz, Nat.le_trans h.2.1 hz, Nat.le_trans h.2.2.1 hz, Nat.le_trans h.2.2.2.1 hz, Nat.le_trans h.2.2.2.2.1 hz, Nat.le_trans h.2.2.2.2.2 hz⟩
def MLoop (R : Ans8 (Msg × Nat)) (l : List Tk) (d n : Nat) (m : Msg) (q a b : Nat) : Prop :=
 (b = 0 ∧ a = 0 ∧ 1 ≤ n ∧ l.length + 1 ≤ n + q ∧ q ≤ l.length ∧ Small m (200000 * q) ∧ R = sBody l (sMessage l d) n m q) ∨ (b ≠ 0 ∧ R = .error (a, b))
theorem MLoop.next {R : Ans8 (Msg × Nat)} {l : List Tk} {d k : Nat} {m m' : Msg} {q r a b : Nat} (hw : R = sBody l (sMessage l d) (k + 1) m q) (hc : tkIs l (semis l q) 4 [125] = false) (hn : l.length + 1 ≤ k + 1 + q) (hq : q ≤ l.length) (hr : Res (sPart l (sMessage l d) m (semis l q)) (m', r) a b) (hsm : Small m' (200000 * (q + 1))) : MLoop R l d k m' r a b := by
 have h5 := semis_le hq
 rcases hr with ⟨h1, h2, h3⟩ | ⟨h1, h3⟩
 ·have h4 := sPart_ok (sMessage_ok l d) h3
  refine .inl ⟨h1, h2, by omega, by omega, by omega, hsm.mono (by omega), ?_⟩
  simp only [hw, sBody, hc, h3]
  rfl
 ·refine .inr ⟨h1, ?_⟩
  simp only [hw, sBody, hc, h3]
  rfl
end Go.Proofs.YtekeanikgcpijaaDoor
