/- Part 18 of what the last text of this claim is proved by: walks over the program, and the math behind them. Conditions: as each theorem says. -/
import Derived.Test.YtekeanikgcpijaaDoorSO17
import Derived.Test.YtekeanikgcpijaaDoorProg
namespace Go.Proofs.YtekeanikgcpijaaDoor
open Go.RowKit
abbrev mpX : Bx := ⟨121, [.box 3 0]⟩
abbrev rB (l : List Tk) (m : Msg) (q : Nat) : BL := [(4, ptX), (5, mpX), (1, pX l q), (3, pmX m)]
abbrev RE (l : List Tk) (E8 E9 : Er) (r : Ans8 (Msg × Nat)) (y : IV) (B1 : BL) (R1 : RL) : Prop := ME l E8 E9 (rB l) pmR r y B1 R1
theorem RE.tidy {l : List Tk} {E8 E9 : Er} {r : Ans8 (Msg × Nat)} {m : Msg} {q : Nat} (y : IV) (B1 : BL) (R1 : RL) (h : RE l E8 E9 r y B1 R1) : Tidy (rB l m q) (pmR m) y B1 R1 := by
 rcases h with ⟨a, b, z, x, _, rfl, rfl, rfl⟩ | ⟨x, z, _, rfl, rfl, rfl⟩ <;> exact ⟨rfl, rfl, rfl, rfl⟩
abbrev Rsv := List (Int × Int) × List (List UInt8)
theorem withRes_err {m : Msg} {r : Ans8 (Rsv × Nat)} {e : Nat × Nat} (h : withRes m r = .error e) : r = .error e := by
 unfold withRes at h
 split at h
 ·cases h
  rfl
 ·cases h
theorem withRes_ok {m x : Msg} {r : Ans8 (Rsv × Nat)} {z : Nat} (h : withRes m r = .ok (x, z)) : ∃ g, r = .ok (g, z) ∧ x = m.addReserved g := by
 unfold withRes at h
 split at h
 ·cases h
 ·rename_i g q
  injection h with h
  injection h with h1 h2
  subst h1 h2
  exact ⟨g, rfl, rfl⟩
theorem sResN_ok {l : List Tk} {p q : Nat} {g : Rsv} (h : sResN l p = .ok (g, q)) : p < q ∧ q ≤ l.length ∧ g.1.length ≤ 1 ∧ g.2.length ≤ 1 := by
 unfold sResN at h
 split at h
 ·cases h
 ·rename_i t r hr
  have := sText_ok hr
  injection h with h
  injection h with h1 h2
  subst h1 h2
  exact ⟨by omega, by omega, by simp, by simp⟩
theorem sResR_ok {l : List Tk} {p q : Nat} {g : Rsv} (h : sResR l p = .ok (g, q)) : p < q ∧ q ≤ l.length ∧ g.1.length ≤ 1 ∧ g.2.length ≤ 1 := by
 unfold sResR at h
 split at h
 ·cases h
 ·rename_i t r hr
  have := sRange_ok hr
  injection h with h
  injection h with h1 h2
  subst h1 h2
  exact ⟨by omega, by omega, by simp, by simp⟩
theorem small_res {m : Msg} {g : Rsv} {y z : Nat} (h : Small m y) (h1 : g.1.length ≤ 1) (h2 : g.2.length ≤ 1) (hz : y + 1 ≤ z) : Small (m.addReserved g) z := by
 obtain ⟨nm, fs, os, ms, es, rs, ns, ln, cl⟩ := m
 obtain ⟨a1, a2, a3, a4, a5, a6⟩ := h
 simp only [Msg.fields, Msg.oneofs, Msg.msgs, Msg.enums, Msg.reserved, Msg.names] at a1 a2 a3 a4 a5 a6
 refine ⟨?_, ?_, ?_, ?_, ?_, ?_⟩ <;> simp only [Msg.addReserved, Msg.fields, Msg.oneofs, Msg.msgs, Msg.enums, Msg.reserved, Msg.names, List.length_append] <;> omega
def sRowR (l : List Tk) (part : Nat → Ans8 (Rsv × Nat)) : Nat → Msg → Nat → Ans8 (Msg × Nat)
 | 0, _, p => form8 p
 | n + 1, m, p =>
  match part p with
  | .error e => .error e
  | .ok (g, q) =>
   if tkIs l q 4 [44] then sRowR l part n (m.addReserved g) (q + 1)
   else
    match sWant l 4 [59] q with
    | .error e => .error e
    | .ok r => .ok (m.addReserved g, r)
theorem addRes_add (m : Msg) (a b : Rsv) : (m.addReserved a).addReserved b = m.addReserved (a.1 ++ b.1, a.2 ++ b.2) := by
 obtain ⟨nm, fs, os, ms, es, rs, ns, ln, cl⟩ := m
 simp [Msg.addReserved, List.append_assoc]
theorem addRes_nil (m : Msg) : m.addReserved ([], []) = m := by
 obtain ⟨nm, fs, os, ms, es, rs, ns, ln, cl⟩ := m
 simp [Msg.addReserved]
theorem sTexts_row (l : List Tk) (m : Msg) : ∀ (n : Nat) (ts : List (List UInt8)) (p : Nat), (match sTexts l n ts p with | .error e => (.error e : Ans8 (Msg × Nat)) | .ok (us, q) => .ok (m.addReserved ([], us), q)) = sRowR l (sResN l) n (m.addReserved ([], ts)) p
 | 0, _, _ => rfl
 | n + 1, ts, p => by
  rw [sTexts, sRowR, sResN]
  cases sText l p with
  | error e => rfl
  | ok x =>
   obtain ⟨x, q⟩ := x
   dsimp only
   rw [addRes_add]
   by_cases hc : tkIs l q 4 [44] = true
   ·rw [if_pos hc, if_pos hc]
    exact sTexts_row l m n (ts ++ [x]) (q + 1)
   ·rw [if_neg hc, if_neg hc]
    cases sWant l 4 [59] q <;> rfl
theorem sRanges_row (l : List Tk) (m : Msg) : ∀ (n : Nat) (ts : List (Int × Int)) (p : Nat), (match sRanges l n ts p with | .error e => (.error e : Ans8 (Msg × Nat)) | .ok (us, q) => .ok (m.addReserved (us, []), q)) = sRowR l (sResR l) n (m.addReserved (ts, [])) p
 | 0, _, _ => rfl
 | n + 1, ts, p => by
  rw [sRanges, sRowR, sResR]
  cases sRange l p with
  | error e => rfl
  | ok x =>
   obtain ⟨x, q⟩ := x
   dsimp only
   rw [addRes_add]
   by_cases hc : tkIs l q 4 [44] = true
   ·rw [if_pos hc, if_pos hc]
    exact sRanges_row l m n (ts ++ [x]) (q + 1)
   ·rw [if_neg hc, if_neg hc]
    cases sWant l 4 [59] q <;> rfl
theorem sReserved_row (l : List Tk) (m : Msg) (p : Nat) : withRes m (sReserved l p) = if isText l p then sRowR l (sResN l) (l.length + 1) m p else sRowR l (sResR l) (l.length + 1) m p := by
 unfold sReserved
 split
 ·have := sTexts_row l m (l.length + 1) [] p
  rw [addRes_nil] at this
  rw [← this]
  cases sTexts l (l.length + 1) [] p <;> rfl
 ·have := sRanges_row l m (l.length + 1) [] p
  rw [addRes_nil] at this
  rw [← this]
  cases sRanges l (l.length + 1) [] p <;> rfl
abbrev cloRN : IV := .clo (.func 87) [] [.box 4 0, .box 5 0]
set_option maxRecDepth 100000 in
theorem cloRN_g (E8 E9 : Er) (l : List Tk) (hl : PTk l) (m : Msg) (hm : Small m 100000000000) (p : Nat) (hp : p ≤ 100000) : EG Tryd.prog (gE E8 E9) 87 [.box 4 0, .box 5 0] (rB l m p) (pmR m) (RE l E8 E9 (withRes m (sResN l p))) := by
 refine eg_enter 6 Tryd.func87 rfl rfl rfl fun w D bor mb => ?_
 try refine e_fl ?_
 refine e_plain (w_as rfl rfl rfl rfl rfl .nil) ?_
 try refine e_fl ?_
 refine e_list ?_
 refine l_op (s_load1_box rfl (kn rfl) rfl rfl one_86) ?_
 refine l_op (s_load1_box rfl (kn rfl) rfl rfl one_121) ?_
 refine e_calli rfl rfl rfl rfl (by kernel_rfl) (reservedName_g E8 E9 l hl m hm p hp) ⟨rfl, rfl, trivial⟩ ⟨rfl, rfl, rfl, rfl, rfl, rfl, trivial⟩ ⟨(kn rfl), ⟨(kn rfl), trivial⟩⟩ (NE.tidy) ?_
 rintro _ _ _ (⟨a, b, z, g, he, rfl, rfl, rfl⟩ | ⟨g, z, ho, rfl, rfl, rfl⟩)
 ·refine l_as ?_
  refine e_nil ?_
  try refine e_fl ?_
  exact e_returnx (rB l g z) (pmR g) rfl (.tmp (kn rfl) (.nil)) (Imp.refl _) ⟨s_b, s_b, s_b, s_b, trivial⟩ ⟨rfl, rfl, rfl, rfl, rfl, rfl, trivial⟩ (.inl ⟨a, b, z, g, he, rfl, rfl, rfl⟩)
 ·refine l_as ?_
  refine e_nil ?_
  try refine e_fl ?_
  exact e_returnx (rB l g z) (pmR g) rfl (.tmp (kn rfl) (.nil)) (Imp.refl _) ⟨s_b, s_b, s_b, s_b, trivial⟩ ⟨rfl, rfl, rfl, rfl, rfl, rfl, trivial⟩ (.inr ⟨g, z, ho, rfl, rfl, rfl⟩)
set_option maxRecDepth 100000 in
set_option maxHeartbeats 1000000 in
theorem rowN_g (E8 E9 : Er) (l : List Tk) (hl : PTk l) (m0 : Msg) (hm0 : Small m0 10000000000) (p : Nat) (hp : p ≤ 100000) : EG Tryd.prog (gE E8 E9) 86 [.box 1 0, .part (sP [59]), cloRN] (rB l m0 p) (pmR m0) (RE l E8 E9 (sRowR l (sResN l) (l.length + 1) m0 p)) := by
 refine eg_enter 21 Tryd.func86 rfl rfl rfl fun w D bor mb => ?_
 try refine e_fl ?_
 have hll := hl.len
 obtain ⟨rr, hrr⟩ : ∃ rr, rr = sRowR l (sResN l) (l.length + 1) m0 p := ⟨_, rfl⟩
 rw [← hrr]
 refine e_plain (w_as rfl rfl rfl rfl rfl .nil) ?_
 try refine e_fl ?_
 refine e_loop (ι := { i : Nat × Msg × Nat // 1 ≤ i.1 ∧ l.length + 1 ≤ i.1 + i.2.2 ∧ i.2.2 ≤ 100000 ∧ Small i.2.1 (10000000000 + i.2.2) ∧ rr = sRowR l (sResN l) i.1 i.2.1 i.2.2 })
  (fun _ => [(0, .box 1 0), (1, .part (sP [59])), (2, cloRN)])
  (fun i => rB l i.1.2.1 i.1.2.2) (fun i => pmR i.1.2.1)
  (fun i => i.1.1) ⟨(l.length + 1, m0, p), by omega, by dsimp only; omega, hp, hm0.mono (by omega), hrr⟩
  (fun K => e_sub ⟨s_t, s_t, s_t, trivial⟩ ⟨s_b, s_b, s_b, s_b, trivial⟩ ⟨rfl, rfl, rfl, rfl, rfl, rfl, trivial⟩) ?_
 rintro ⟨⟨n, m, q⟩, hn1, hn, hq, hm, hw⟩
 dsimp only at hn1 hn hq hm hw ⊢
 obtain ⟨k, rfl⟩ : ∃ k, n = k + 1 := ⟨n - 1, by omega⟩
 rw [sRowR] at hw
 try refine e_fl ?_
 refine e_list ?_
 refine l_mv ?_
 refine e_callci (zs := []) rfl rfl rfl rfl (by kernel_rfl) (cloRN_g E8 E9 l hl m (hm.mono (by omega)) q hq) ⟨rfl, rfl, rfl, rfl, trivial⟩ ⟨rfl, rfl, rfl, rfl, rfl, rfl, trivial⟩ (kn rfl) trivial rfl (RE.tidy) ?_
 rintro _ _ _ (⟨a, b, z, g, he, rfl, rfl, rfl⟩ | ⟨m', r, ho, rfl, rfl, rfl⟩)
 ·refine l_as ?_
  refine e_nil ?_
  try refine e_fl ?_
  refine e_plain (w_mv rfl rfl rfl rfl rfl (w_op rfl rfl rfl (s_err_neq rfl (kn rfl) rfl ifc_30) .nil)) ?_
  try refine e_fl ?_
  refine c_yes ?_
  try refine e_fl ?_
  refine e_plain (w_mv rfl rfl rfl rfl rfl (w_as rfl rfl rfl rfl rfl .nil)) ?_
  try refine e_fl ?_
  exact e_returnx (rB l g z) (pmR g) rfl (.tmp (kn rfl) (.nil)) (Imp.refl _) ⟨s_b, s_b, s_b, s_b, trivial⟩ ⟨rfl, rfl, rfl, rfl, rfl, rfl, trivial⟩ (.inl ⟨a, b, z, g, by rw [hw, withRes_err he], rfl, rfl, rfl⟩)
 obtain ⟨g, hg, rfl⟩ := withRes_ok ho
 obtain ⟨hq1, hq2, hg1, hg2⟩ := sResN_ok hg
 have hm' : Small (m.addReserved g) (10000000000 + r) := small_res hm hg1 hg2 (by omega)
 rw [hg] at hw
 dsimp only at hw
 refine l_as ?_
 refine e_nil ?_
 try refine e_fl ?_
 refine e_plain (w_mv rfl rfl rfl rfl rfl (w_op rfl rfl rfl (s_nil_neq rfl (kn rfl) ifc_30) .nil)) ?_
 try refine e_fl ?_
 refine c_no ?_
 try refine e_fl ?_
 refine e_list ?_
 refine l_mv ?_
 refine l_op (s_buildSlice (ds := [_]) [(0, _)] rfl ⟨rfl, (kn rfl), trivial⟩ rfl sl_45 sz_9 zr_9 (fun w D => .cons (.cell _) (.nil _ _)) rfl rfl rfl rfl rfl) ?_
 refine e_calli rfl rfl rfl rfl (by kernel_rfl) (take1 _ l hl [44] 4 rfl (by decide) r (by omega)) ⟨rfl, trivial⟩ trivial ⟨(kn rfl), ⟨(kn rfl), trivial⟩⟩ (fun _ _ _ h => PY.tidy h.1 h.2.1 h.2.2) ?_
 rintro _ _ _ ⟨rfl, rfl, rfl⟩
 refine l_op (s_not rfl (kn rfl)) ?_
 refine e_nil ?_
 try refine e_fl ?_
 refine e_cond rfl (fun h => ?_) (fun h => ?_)
 ·have h1 := not_t h
  rw [if_neg (by rw [h1]; decide)] at hw
  rw [h1]
  try refine e_fl ?_
  refine e_list ?_
  refine l_mv ?_
  refine l_mv ?_
  refine l_op (s_buildSlice (ds := [_]) [(0, _)] rfl ⟨rfl, (kn rfl), trivial⟩ rfl sl_45 sz_9 zr_9 (fun w D => .cons (.cell _) (.nil _ _)) rfl rfl rfl rfl rfl) ?_
  refine e_calli rfl rfl rfl rfl (by kernel_rfl) (want1_g E8 E9 l hl 4 [59] rfl (by decide) r (by omega)) ⟨rfl, trivial⟩ trivial ⟨(kn rfl), ⟨(kn rfl), trivial⟩⟩ (PE.tidy) ?_
  rintro _ _ _ (⟨a, b, z, he, rfl, rfl, rfl⟩ | ⟨z, hz, rfl, rfl, rfl⟩)
  ·refine l_as ?_
   refine e_nil ?_
   try refine e_fl ?_
   exact e_returnx (rB l (m.addReserved g) z) (pmR (m.addReserved g)) rfl (.tmp (kn rfl) (.nil)) (Imp.refl _) ⟨s_b, s_b, s_b, s_b, trivial⟩ ⟨rfl, rfl, rfl, rfl, rfl, rfl, trivial⟩ (.inl ⟨a, b, z, m.addReserved g, by rw [hw, he], rfl, rfl, rfl⟩)
  ·refine l_as ?_
   refine e_nil ?_
   try refine e_fl ?_
   exact e_returnx (rB l (m.addReserved g) z) (pmR (m.addReserved g)) rfl (.tmp (kn rfl) (.nil)) (Imp.refl _) ⟨s_b, s_b, s_b, s_b, trivial⟩ ⟨rfl, rfl, rfl, rfl, rfl, rfl, trivial⟩ (.inr ⟨m.addReserved g, z, by rw [hw, hz], rfl, rfl, rfl⟩)
 have h1 := not_f h
 have hlt := tkIs_lt h1
 rw [if_pos h1] at hw
 rw [h1]
 try refine e_fl ?_
 refine e_again ⟨(k, m.addReserved g, r + 1), by omega, by dsimp only; omega, by dsimp only; omega, hm'.mono (by dsimp only; omega), hw⟩ (by dsimp only; omega) (fun K => e_sub ⟨s_t, s_t, s_t, trivial⟩ ⟨s_b, s_b, s_b, s_b, trivial⟩ ⟨rfl, rfl, rfl, rfl, rfl, rfl, trivial⟩)
abbrev cloRR : IV := .clo (.func 89) [] [.box 4 0, .box 5 0]
set_option maxRecDepth 100000 in
theorem cloRR_g (E8 E9 : Er) (l : List Tk) (hl : PTk l) (m : Msg) (hm : Small m 100000000000) (p : Nat) (hp : p ≤ 100000) : EG Tryd.prog (gE E8 E9) 89 [.box 4 0, .box 5 0] (rB l m p) (pmR m) (RE l E8 E9 (withRes m (sResR l p))) := by
 refine eg_enter 6 Tryd.func89 rfl rfl rfl fun w D bor mb => ?_
 try refine e_fl ?_
 refine e_plain (w_as rfl rfl rfl rfl rfl .nil) ?_
 try refine e_fl ?_
 refine e_list ?_
 refine l_op (s_load1_box rfl (kn rfl) rfl rfl one_86) ?_
 refine l_op (s_load1_box rfl (kn rfl) rfl rfl one_121) ?_
 refine e_calli rfl rfl rfl rfl (by kernel_rfl) (reservedRange_g E8 E9 l hl m hm p hp) ⟨rfl, rfl, trivial⟩ ⟨rfl, rfl, rfl, rfl, rfl, rfl, trivial⟩ ⟨(kn rfl), ⟨(kn rfl), trivial⟩⟩ (NE.tidy) ?_
 rintro _ _ _ (⟨a, b, z, g, he, rfl, rfl, rfl⟩ | ⟨g, z, ho, rfl, rfl, rfl⟩)
 ·refine l_as ?_
  refine e_nil ?_
  try refine e_fl ?_
  exact e_returnx (rB l g z) (pmR g) rfl (.tmp (kn rfl) (.nil)) (Imp.refl _) ⟨s_b, s_b, s_b, s_b, trivial⟩ ⟨rfl, rfl, rfl, rfl, rfl, rfl, trivial⟩ (.inl ⟨a, b, z, g, he, rfl, rfl, rfl⟩)
 ·refine l_as ?_
  refine e_nil ?_
  try refine e_fl ?_
  exact e_returnx (rB l g z) (pmR g) rfl (.tmp (kn rfl) (.nil)) (Imp.refl _) ⟨s_b, s_b, s_b, s_b, trivial⟩ ⟨rfl, rfl, rfl, rfl, rfl, rfl, trivial⟩ (.inr ⟨g, z, ho, rfl, rfl, rfl⟩)
set_option maxRecDepth 100000 in
set_option maxHeartbeats 1000000 in
theorem rowR_g (E8 E9 : Er) (l : List Tk) (hl : PTk l) (m0 : Msg) (hm0 : Small m0 10000000000) (p : Nat) (hp : p ≤ 100000) : EG Tryd.prog (gE E8 E9) 86 [.box 1 0, .part (sP [59]), cloRR] (rB l m0 p) (pmR m0) (RE l E8 E9 (sRowR l (sResR l) (l.length + 1) m0 p)) := by
 refine eg_enter 21 Tryd.func86 rfl rfl rfl fun w D bor mb => ?_
 try refine e_fl ?_
 have hll := hl.len
 obtain ⟨rr, hrr⟩ : ∃ rr, rr = sRowR l (sResR l) (l.length + 1) m0 p := ⟨_, rfl⟩
 rw [← hrr]
 refine e_plain (w_as rfl rfl rfl rfl rfl .nil) ?_
 try refine e_fl ?_
 refine e_loop (ι := { i : Nat × Msg × Nat // 1 ≤ i.1 ∧ l.length + 1 ≤ i.1 + i.2.2 ∧ i.2.2 ≤ 100000 ∧ Small i.2.1 (10000000000 + i.2.2) ∧ rr = sRowR l (sResR l) i.1 i.2.1 i.2.2 })
  (fun _ => [(0, .box 1 0), (1, .part (sP [59])), (2, cloRR)])
  (fun i => rB l i.1.2.1 i.1.2.2) (fun i => pmR i.1.2.1)
  (fun i => i.1.1) ⟨(l.length + 1, m0, p), by omega, by dsimp only; omega, hp, hm0.mono (by omega), hrr⟩
  (fun K => e_sub ⟨s_t, s_t, s_t, trivial⟩ ⟨s_b, s_b, s_b, s_b, trivial⟩ ⟨rfl, rfl, rfl, rfl, rfl, rfl, trivial⟩) ?_
 rintro ⟨⟨n, m, q⟩, hn1, hn, hq, hm, hw⟩
 dsimp only at hn1 hn hq hm hw ⊢
 obtain ⟨k, rfl⟩ : ∃ k, n = k + 1 := ⟨n - 1, by omega⟩
 rw [sRowR] at hw
 try refine e_fl ?_
 refine e_list ?_
 refine l_mv ?_
 refine e_callci (zs := []) rfl rfl rfl rfl (by kernel_rfl) (cloRR_g E8 E9 l hl m (hm.mono (by omega)) q hq) ⟨rfl, rfl, rfl, rfl, trivial⟩ ⟨rfl, rfl, rfl, rfl, rfl, rfl, trivial⟩ (kn rfl) trivial rfl (RE.tidy) ?_
 rintro _ _ _ (⟨a, b, z, g, he, rfl, rfl, rfl⟩ | ⟨m', r, ho, rfl, rfl, rfl⟩)
 ·refine l_as ?_
  refine e_nil ?_
  try refine e_fl ?_
  refine e_plain (w_mv rfl rfl rfl rfl rfl (w_op rfl rfl rfl (s_err_neq rfl (kn rfl) rfl ifc_30) .nil)) ?_
  try refine e_fl ?_
  refine c_yes ?_
  try refine e_fl ?_
  refine e_plain (w_mv rfl rfl rfl rfl rfl (w_as rfl rfl rfl rfl rfl .nil)) ?_
  try refine e_fl ?_
  exact e_returnx (rB l g z) (pmR g) rfl (.tmp (kn rfl) (.nil)) (Imp.refl _) ⟨s_b, s_b, s_b, s_b, trivial⟩ ⟨rfl, rfl, rfl, rfl, rfl, rfl, trivial⟩ (.inl ⟨a, b, z, g, by rw [hw, withRes_err he], rfl, rfl, rfl⟩)
 obtain ⟨g, hg, rfl⟩ := withRes_ok ho
 obtain ⟨hq1, hq2, hg1, hg2⟩ := sResR_ok hg
 have hm' : Small (m.addReserved g) (10000000000 + r) := small_res hm hg1 hg2 (by omega)
 rw [hg] at hw
 dsimp only at hw
 refine l_as ?_
 refine e_nil ?_
 try refine e_fl ?_
 refine e_plain (w_mv rfl rfl rfl rfl rfl (w_op rfl rfl rfl (s_nil_neq rfl (kn rfl) ifc_30) .nil)) ?_
 try refine e_fl ?_
 refine c_no ?_
 try refine e_fl ?_
 refine e_list ?_
 refine l_mv ?_
 refine l_op (s_buildSlice (ds := [_]) [(0, _)] rfl ⟨rfl, (kn rfl), trivial⟩ rfl sl_45 sz_9 zr_9 (fun w D => .cons (.cell _) (.nil _ _)) rfl rfl rfl rfl rfl) ?_
 refine e_calli rfl rfl rfl rfl (by kernel_rfl) (take1 _ l hl [44] 4 rfl (by decide) r (by omega)) ⟨rfl, trivial⟩ trivial ⟨(kn rfl), ⟨(kn rfl), trivial⟩⟩ (fun _ _ _ h => PY.tidy h.1 h.2.1 h.2.2) ?_
 rintro _ _ _ ⟨rfl, rfl, rfl⟩
 refine l_op (s_not rfl (kn rfl)) ?_
 refine e_nil ?_
 try refine e_fl ?_
 refine e_cond rfl (fun h => ?_) (fun h => ?_)
 ·have h1 := not_t h
  rw [if_neg (by rw [h1]; decide)] at hw
  rw [h1]
  try refine e_fl ?_
  refine e_list ?_
  refine l_mv ?_
  refine l_mv ?_
  refine l_op (s_buildSlice (ds := [_]) [(0, _)] rfl ⟨rfl, (kn rfl), trivial⟩ rfl sl_45 sz_9 zr_9 (fun w D => .cons (.cell _) (.nil _ _)) rfl rfl rfl rfl rfl) ?_
  refine e_calli rfl rfl rfl rfl (by kernel_rfl) (want1_g E8 E9 l hl 4 [59] rfl (by decide) r (by omega)) ⟨rfl, trivial⟩ trivial ⟨(kn rfl), ⟨(kn rfl), trivial⟩⟩ (PE.tidy) ?_
  rintro _ _ _ (⟨a, b, z, he, rfl, rfl, rfl⟩ | ⟨z, hz, rfl, rfl, rfl⟩)
  ·refine l_as ?_
   refine e_nil ?_
   try refine e_fl ?_
   exact e_returnx (rB l (m.addReserved g) z) (pmR (m.addReserved g)) rfl (.tmp (kn rfl) (.nil)) (Imp.refl _) ⟨s_b, s_b, s_b, s_b, trivial⟩ ⟨rfl, rfl, rfl, rfl, rfl, rfl, trivial⟩ (.inl ⟨a, b, z, m.addReserved g, by rw [hw, he], rfl, rfl, rfl⟩)
  ·refine l_as ?_
   refine e_nil ?_
   try refine e_fl ?_
   exact e_returnx (rB l (m.addReserved g) z) (pmR (m.addReserved g)) rfl (.tmp (kn rfl) (.nil)) (Imp.refl _) ⟨s_b, s_b, s_b, s_b, trivial⟩ ⟨rfl, rfl, rfl, rfl, rfl, rfl, trivial⟩ (.inr ⟨m.addReserved g, z, by rw [hw, hz], rfl, rfl, rfl⟩)
 have h1 := not_f h
 have hlt := tkIs_lt h1
 rw [if_pos h1] at hw
 rw [h1]
 try refine e_fl ?_
 refine e_again ⟨(k, m.addReserved g, r + 1), by omega, by dsimp only; omega, by dsimp only; omega, hm'.mono (by dsimp only; omega), hw⟩ (by dsimp only; omega) (fun K => e_sub ⟨s_t, s_t, s_t, trivial⟩ ⟨s_b, s_b, s_b, s_b, trivial⟩ ⟨rfl, rfl, rfl, rfl, rfl, rfl, trivial⟩)
theorem isText_tk (l : List Tk) (p : Nat) : decide (((tkAt l p).1.k : Int) = 3) = isText l p := by
 rw [← isText_eq, int_lt]
 by_cases h : p < l.length
 ·rw [decide_eq_true h, Bool.true_and]
 ·have : tkAt l p = tk0 := by
   unfold tkAt
   rw [List.getD_eq_getElem?_getD, List.getElem?_eq_none (by omega)]
   rfl
  rw [decide_eq_false h, this]
  rfl
set_option maxRecDepth 100000 in
theorem reserved_g (E8 E9 : Er) (l : List Tk) (hl : PTk l) (m : Msg) (hm : Small m 10000000000) (p : Nat) (hp : p ≤ 100000) : EG Tryd.prog (gE E8 E9) 78 [.box 1 0, .box 3 0] (mS l m p) (pmR m) (NE l E8 E9 (withRes m (sReserved l p))) := by
 refine eg_enter 15 Tryd.func78 rfl rfl rfl fun w D bor mb => ?_
 try refine e_fl ?_
 refine e_list ?_
 refine e_boxi 4 rfl rfl rfl rfl (kn rfl) rfl rfl rfl rfl rfl ?_
 refine e_boxi 5 rfl rfl rfl rfl (kn rfl) rfl rfl rfl rfl rfl ?_
 refine l_as ?_
 refine e_nil ?_
 try refine e_fl ?_
 refine e_plain (w_op rfl rfl rfl (s_load1_box rfl (kn rfl) rfl rfl one_86) (w_op rfl rfl rfl (s_callr rfl (by kernel_rfl) (ahead_r _ l hl.toTksOk p 0 (by omega) (by omega)) (kn rfl) rfl rfl ⟨kn rfl, trivial⟩) (w_op rfl rfl rfl (s_field (fty := 3) (off := 0) rfl (kn rfl) (by kernel_rfl) (.inr ⟨_, int_3⟩) rfl) (w_op rfl rfl rfl (s_bin rfl (kn rfl) (kn rfl) v_eql) .nil)))) ?_
 try refine e_fl ?_
 refine e_cond rfl (fun h => ?_) (fun h => ?_)
 ·have ht : isText l p = true := by rw [← isText_tk]; exact h
  try refine e_fl ?_
  refine e_list ?_
  refine l_op (s_load1_box rfl (kn rfl) rfl rfl one_86) ?_
  refine l_op (s_func (fs := []) (cs := [.box 4 0, .box 5 0]) rfl trivial ⟨(kn rfl), (kn rfl), trivial⟩) ?_
  refine e_calli rfl rfl rfl rfl (by kernel_rfl) (rowN_g E8 E9 l hl m hm p hp) ⟨rfl, rfl, rfl, rfl, trivial⟩ ⟨rfl, rfl, rfl, rfl, rfl, rfl, trivial⟩ ⟨(kn rfl), ⟨(kn rfl), ⟨(kn rfl), trivial⟩⟩⟩ (RE.tidy) ?_
  rintro _ _ _ (⟨a, b, z, g, he, rfl, rfl, rfl⟩ | ⟨g, z, ho, rfl, rfl, rfl⟩)
  ·refine l_as ?_
   refine e_nil ?_
   try refine e_fl ?_
   exact e_returnx (mS l g z) (pmR g) rfl (.tmp (kn rfl) (.nil)) (Imp.refl _) ⟨s_b, s_b, trivial⟩ ⟨rfl, rfl, rfl, rfl, rfl, rfl, trivial⟩ (.inl ⟨a, b, z, g, by rw [sReserved_row, ht]; exact he, rfl, rfl, rfl⟩)
  ·refine l_as ?_
   refine e_nil ?_
   try refine e_fl ?_
   exact e_returnx (mS l g z) (pmR g) rfl (.tmp (kn rfl) (.nil)) (Imp.refl _) ⟨s_b, s_b, trivial⟩ ⟨rfl, rfl, rfl, rfl, rfl, rfl, trivial⟩ (.inr ⟨g, z, by rw [sReserved_row, ht]; exact ho, rfl, rfl, rfl⟩)
 ·have ht : isText l p = false := by rw [← isText_tk]; exact h
  try refine e_fl ?_
  refine e_list ?_
  refine l_op (s_load1_box rfl (kn rfl) rfl rfl one_86) ?_
  refine l_op (s_func (fs := []) (cs := [.box 4 0, .box 5 0]) rfl trivial ⟨(kn rfl), (kn rfl), trivial⟩) ?_
  refine e_calli rfl rfl rfl rfl (by kernel_rfl) (rowR_g E8 E9 l hl m hm p hp) ⟨rfl, rfl, rfl, rfl, trivial⟩ ⟨rfl, rfl, rfl, rfl, rfl, rfl, trivial⟩ ⟨(kn rfl), ⟨(kn rfl), ⟨(kn rfl), trivial⟩⟩⟩ (RE.tidy) ?_
  rintro _ _ _ (⟨a, b, z, g, he, rfl, rfl, rfl⟩ | ⟨g, z, ho, rfl, rfl, rfl⟩)
  ·refine l_as ?_
   refine e_nil ?_
   try refine e_fl ?_
   exact e_returnx (mS l g z) (pmR g) rfl (.tmp (kn rfl) (.nil)) (Imp.refl _) ⟨s_b, s_b, trivial⟩ ⟨rfl, rfl, rfl, rfl, rfl, rfl, trivial⟩ (.inl ⟨a, b, z, g, by rw [sReserved_row, ht]; exact he, rfl, rfl, rfl⟩)
  ·refine l_as ?_
   refine e_nil ?_
   try refine e_fl ?_
   exact e_returnx (mS l g z) (pmR g) rfl (.tmp (kn rfl) (.nil)) (Imp.refl _) ⟨s_b, s_b, trivial⟩ ⟨rfl, rfl, rfl, rfl, rfl, rfl, trivial⟩ (.inr ⟨g, z, by rw [sReserved_row, ht]; exact ho, rfl, rfl, rfl⟩)
end Go.Proofs.YtekeanikgcpijaaDoor
