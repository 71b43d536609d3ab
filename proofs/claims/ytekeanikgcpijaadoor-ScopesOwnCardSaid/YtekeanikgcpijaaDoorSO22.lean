/- Part 22 of what the last text of this claim is proved by: walks over the program, and the math behind them. Conditions: as each theorem says. -/
import Derived.Test.YtekeanikgcpijaaDoorSO21
import Derived.Test.YtekeanikgcpijaaDoorProg
namespace Go.Proofs.YtekeanikgcpijaaDoor
open Go.RowKit
theorem word_iff {l : List Tk} {p : Nat} {w : List UInt8} (hw : w ≠ []) : tkIs l p 1 w = true ↔ wordAt l p = w := by
 unfold tkIs wordAt
 cases l[p]? with
 | none => simp [Ne.symm hw]
 | some x =>
  by_cases hk : x.1.k = 1
  ·simp [hk, hw]
  ·simp [hk, Ne.symm hw]
theorem word_no {l : List Tk} {p : Nat} {w : List UInt8} (hw : w ≠ []) (h : tkIs l p 1 w = false) : ¬ wordAt l p = w := fun e => by
 rw [(word_iff hw).2 e] at h
 cases h
def withMsg (m : Msg) (r : Ans8 (Msg × Nat)) : Ans8 (Msg × Nat) :=
 match r with
 | .error e => .error e
 | .ok (g, q) => .ok (m.addMsg g, q)
theorem sPart_message {l : List Tk} {sub : Nat → Ans8 (Msg × Nat)} {m : Msg} {p : Nat}  (h : tkIs l p 1 [109, 101, 115, 115, 97, 103, 101] = true) : sPart l sub m p = withMsg m (sub (p + 1)) := by
 have e := (word_iff (by decide)).1 h
 simp only [sPart, e]
 rfl
theorem sPart_enum {l : List Tk} {sub : Nat → Ans8 (Msg × Nat)} {m : Msg} {p : Nat} (h0 : tkIs l p 1 [109, 101, 115, 115, 97, 103, 101] = false) (h : tkIs l p 1 [101, 110, 117, 109] = true) : sPart l sub m p = withEnm m (sEnum l (p + 1)) := by
 have e := (word_iff (by decide)).1 h
 simp only [sPart, e]
 rfl
theorem sPart_oneof {l : List Tk} {sub : Nat → Ans8 (Msg × Nat)} {m : Msg} {p : Nat} (h0 : tkIs l p 1 [109, 101, 115, 115, 97, 103, 101] = false) (h1 : tkIs l p 1 [101, 110, 117, 109] = false) (h : tkIs l p 1 [111, 110, 101, 111, 102] = true) : sPart l sub m p = withOne m (sOneof l (p + 1) ((m.oneofs.length : Int) + 1)) := by
 have e := (word_iff (by decide)).1 h
 simp only [sPart, e]
 rfl
theorem sPart_reserved {l : List Tk} {sub : Nat → Ans8 (Msg × Nat)} {m : Msg} {p : Nat} (h0 : tkIs l p 1 [109, 101, 115, 115, 97, 103, 101] = false) (h1 : tkIs l p 1 [101, 110, 117, 109] = false) (h2 : tkIs l p 1 [111, 110, 101, 111, 102] = false) (h : tkIs l p 1 [114, 101, 115, 101, 114, 118, 101, 100] = true) : sPart l sub m p = withRes m (sReserved l (p + 1)) := by
 have e := (word_iff (by decide)).1 h
 simp only [sPart, e]
 rfl
theorem sPart_repeated {l : List Tk} {sub : Nat → Ans8 (Msg × Nat)} {m : Msg} {p : Nat} (h0 : tkIs l p 1 [109, 101, 115, 115, 97, 103, 101] = false) (h1 : tkIs l p 1 [101, 110, 117, 109] = false) (h2 : tkIs l p 1 [111, 110, 101, 111, 102] = false) (h3 : tkIs l p 1 [114, 101, 115, 101, 114, 118, 101, 100] = false) (h : tkIs l p 1 [114, 101, 112, 101, 97, 116, 101, 100] = true) : sPart l sub m p = withFld m (sFieldF l (fld0 3 0) (p + 1)) := by
 have e := (word_iff (by decide)).1 h
 simp only [sPart, e]
 rfl
theorem sPart_optional {l : List Tk} {sub : Nat → Ans8 (Msg × Nat)} {m : Msg} {p : Nat} (h0 : tkIs l p 1 [109, 101, 115, 115, 97, 103, 101] = false) (h1 : tkIs l p 1 [101, 110, 117, 109] = false) (h2 : tkIs l p 1 [111, 110, 101, 111, 102] = false) (h3 : tkIs l p 1 [114, 101, 115, 101, 114, 118, 101, 100] = false) (h4 : tkIs l p 1 [114, 101, 112, 101, 97, 116, 101, 100] = false) (h : tkIs l p 1 [111, 112, 116, 105, 111, 110, 97, 108] = true) : sPart l sub m p = withFld m (sFieldF l (fld0 2 0) (p + 1)) := by
 have e := (word_iff (by decide)).1 h
 simp only [sPart, e]
 rfl
theorem sPart_map {l : List Tk} {sub : Nat → Ans8 (Msg × Nat)} {m : Msg} {p : Nat} (h : tkIs l p 1 [109, 97, 112] = true) (h2 : tkIs l (p + 1) 4 [60] = true) : sPart l sub m p = withFld m (sMapped l (p + 1)) := by
 have e := (word_iff (by decide)).1 h
 simp only [sPart, e, h2]
 rfl
theorem sPart_else {l : List Tk} {sub : Nat → Ans8 (Msg × Nat)} {m : Msg} {p : Nat} (h0 : tkIs l p 1 [109, 101, 115, 115, 97, 103, 101] = false) (h1 : tkIs l p 1 [101, 110, 117, 109] = false) (h2 : tkIs l p 1 [111, 110, 101, 111, 102] = false) (h3 : tkIs l p 1 [114, 101, 115, 101, 114, 118, 101, 100] = false) (h4 : tkIs l p 1 [114, 101, 112, 101, 97, 116, 101, 100] = false) (h5 : tkIs l p 1 [111, 112, 116, 105, 111, 110, 97, 108] = false) (h6 : (tkIs l p 1 [109, 97, 112] && tkIs l (p + 1) 4 [60]) = false) : sPart l sub m p = withFld m (sFieldF l (fld0 1 0) p) := by
 have e0 := word_no (by decide) h0
 have e1 := word_no (by decide) h1
 have e2 := word_no (by decide) h2
 have e3 := word_no (by decide) h3
 have e4 := word_no (by decide) h4
 have e5 := word_no (by decide) h5
 have e6 : (decide (wordAt l p = [109, 97, 112]) && tkIs l (p + 1) 4 [60]) = false := by
  cases h : tkIs l p 1 [109, 97, 112] with
  | true => rw [h, Bool.true_and] at h6; rw [h6, Bool.and_false]
  | false => rw [decide_eq_false (word_no (by decide) h), Bool.false_and]
 simp only [sPart, if_neg e0, if_neg e1, if_neg e2, if_neg e3, if_neg e4, if_neg e5, e6]
 rfl
def Within (E8 E9 : Er) (l : List Tk) (w : Nat) (sub : Nat → Ans8 (Msg × Nat)) : Prop := ∀ (m : Msg) (p : Nat), Small m 9000000000 → p ≤ 100000 → EG Tryd.prog (gE E8 E9) 55 [.box 1 0, .box 3 3, .part (iP ((w : Int) + 1))] (mS l m p) (pmR m) (NE l E8 E9 (withMsg m (sub p)))
set_option maxRecDepth 100000 in
set_option maxHeartbeats 2000000 in
theorem part_g (E8 E9 : Er) (l : List Tk) (hl : PTk l) (w : Nat) (hw : w ≤ 8) (sub : Nat → Ans8 (Msg × Nat)) (hM : Within E8 E9 l w sub) (m : Msg) (hm : Small m 1000000000) (p : Nat) (hp : p ≤ 100000) : EG Tryd.prog (gE E8 E9) 66 [.box 1 0, .box 3 0, .part (iP (w : Int))] (mS l m p) (pmR m) (NE l E8 E9 (sPart l sub m p)) := by
 refine eg_enter 68 Tryd.func66 rfl rfl rfl fun w D bor mb => ?_
 try refine e_fl ?_
 have hll := hl.len
 refine e_plain (w_as rfl rfl rfl rfl rfl .nil) ?_
 try refine e_fl ?_
 refine e_list ?_
 refine l_mv ?_
 refine l_op (s_buildSlice (ds := [_]) [(0, _)] rfl ⟨rfl, (kn rfl), trivial⟩ rfl sl_45 sz_9 zr_9 (fun w D => .cons (.cell _) (.nil _ _)) rfl rfl rfl rfl rfl) ?_
 refine e_calli rfl rfl rfl rfl (by kernel_rfl) (take1 _ l hl [109, 101, 115, 115, 97, 103, 101] 1 rfl (by decide) p (by omega)) ⟨rfl, trivial⟩ trivial ⟨(kn rfl), ⟨(kn rfl), trivial⟩⟩ (fun _ _ _ h => PY.tidy h.1 h.2.1 h.2.2) ?_
 rintro _ _ _ ⟨rfl, rfl, rfl⟩
 refine l_as ?_
 refine e_nil ?_
 try refine e_fl ?_
 refine e_cond rfl (fun h0 => ?_) (fun h0 => ?_)
 ·have hlt := tkIs_lt h0
  rw [h0]
  try refine e_fl ?_
  refine e_list ?_
  refine l_mv ?_
  refine l_mv ?_
  refine l_op (s_nil_box rfl (kn rfl)) ?_
  refine l_op (s_faddr_box rfl (kn rfl) off_48_3) ?_
  refine l_mv ?_
  refine l_op (s_bin rfl (kn rfl) (kn rfl) (v_add64 (by first | omega | (dsimp only; omega) | omega))) ?_
  refine e_calli rfl rfl rfl rfl (by kernel_rfl) (hM m (p + 1) (hm.mono (by omega)) (by omega)) ⟨rfl, rfl, trivial⟩ ⟨rfl, rfl, rfl, rfl, rfl, rfl, trivial⟩ ⟨(kn rfl), ⟨(kn rfl), ⟨(kn rfl), trivial⟩⟩⟩ (NE.tidy) ?_
  rintro _ _ _ (⟨a, b, z, g, he, rfl, rfl, rfl⟩ | ⟨g, z, ho, rfl, rfl, rfl⟩)
  ·refine l_as ?_
   refine e_nil ?_
   try refine e_fl ?_
   exact e_returnx (mS l g z) (pmR g) rfl (.tmp (kn rfl) (.nil)) (Imp.refl _) ⟨s_b, s_b, trivial⟩ ⟨rfl, rfl, rfl, rfl, rfl, rfl, trivial⟩ (.inl ⟨a, b, z, g, by rw [sPart_message  h0]; exact he, rfl, rfl, rfl⟩)
  refine l_as ?_
  refine e_nil ?_
  try refine e_fl ?_
  exact e_returnx (mS l g z) (pmR g) rfl (.tmp (kn rfl) (.nil)) (Imp.refl _) ⟨s_b, s_b, trivial⟩ ⟨rfl, rfl, rfl, rfl, rfl, rfl, trivial⟩ (.inr ⟨g, z, by rw [sPart_message  h0]; exact ho, rfl, rfl, rfl⟩)
 rw [h0]
 try refine e_fl ?_
 refine e_list ?_
 refine l_mv ?_
 refine l_op (s_buildSlice (ds := [_]) [(0, _)] rfl ⟨rfl, (kn rfl), trivial⟩ rfl sl_45 sz_9 zr_9 (fun w D => .cons (.cell _) (.nil _ _)) rfl rfl rfl rfl rfl) ?_
 refine e_calli rfl rfl rfl rfl (by kernel_rfl) (take1 _ l hl [101, 110, 117, 109] 1 rfl (by decide) p (by omega)) ⟨rfl, trivial⟩ trivial ⟨(kn rfl), ⟨(kn rfl), trivial⟩⟩ (fun _ _ _ h => PY.tidy h.1 h.2.1 h.2.2) ?_
 rintro _ _ _ ⟨rfl, rfl, rfl⟩
 refine l_as ?_
 refine e_nil ?_
 try refine e_fl ?_
 refine e_cond rfl (fun h1 => ?_) (fun h1 => ?_)
 ·have hlt := tkIs_lt h1
  rw [h1]
  try refine e_fl ?_
  refine e_list ?_
  refine l_mv ?_
  refine l_mv ?_
  refine l_op (s_nil_box rfl (kn rfl)) ?_
  refine l_op (s_faddr_box rfl (kn rfl) off_48_4) ?_
  refine e_calli rfl rfl rfl rfl (by kernel_rfl) (enumA_g E8 E9 l hl m (hm.mono (by omega)) (p + 1) (by omega)) ⟨rfl, rfl, trivial⟩ ⟨rfl, rfl, rfl, rfl, rfl, rfl, trivial⟩ ⟨(kn rfl), ⟨(kn rfl), trivial⟩⟩ (NE.tidy) ?_
  rintro _ _ _ (⟨a, b, z, g, he, rfl, rfl, rfl⟩ | ⟨g, z, ho, rfl, rfl, rfl⟩)
  ·refine l_as ?_
   refine e_nil ?_
   try refine e_fl ?_
   exact e_returnx (mS l g z) (pmR g) rfl (.tmp (kn rfl) (.nil)) (Imp.refl _) ⟨s_b, s_b, trivial⟩ ⟨rfl, rfl, rfl, rfl, rfl, rfl, trivial⟩ (.inl ⟨a, b, z, g, by rw [sPart_enum h0 h1]; exact he, rfl, rfl, rfl⟩)
  refine l_as ?_
  refine e_nil ?_
  try refine e_fl ?_
  exact e_returnx (mS l g z) (pmR g) rfl (.tmp (kn rfl) (.nil)) (Imp.refl _) ⟨s_b, s_b, trivial⟩ ⟨rfl, rfl, rfl, rfl, rfl, rfl, trivial⟩ (.inr ⟨g, z, by rw [sPart_enum h0 h1]; exact ho, rfl, rfl, rfl⟩)
 rw [h1]
 try refine e_fl ?_
 refine e_list ?_
 refine l_mv ?_
 refine l_op (s_buildSlice (ds := [_]) [(0, _)] rfl ⟨rfl, (kn rfl), trivial⟩ rfl sl_45 sz_9 zr_9 (fun w D => .cons (.cell _) (.nil _ _)) rfl rfl rfl rfl rfl) ?_
 refine e_calli rfl rfl rfl rfl (by kernel_rfl) (take1 _ l hl [111, 110, 101, 111, 102] 1 rfl (by decide) p (by omega)) ⟨rfl, trivial⟩ trivial ⟨(kn rfl), ⟨(kn rfl), trivial⟩⟩ (fun _ _ _ h => PY.tidy h.1 h.2.1 h.2.2) ?_
 rintro _ _ _ ⟨rfl, rfl, rfl⟩
 refine l_as ?_
 refine e_nil ?_
 try refine e_fl ?_
 refine e_cond rfl (fun h2 => ?_) (fun h2 => ?_)
 ·have hlt := tkIs_lt h2
  rw [h2]
  try refine e_fl ?_
  refine e_list ?_
  refine l_mv ?_
  refine l_mv ?_
  refine e_calli rfl rfl rfl rfl (by kernel_rfl) (oneof_g E8 E9 l hl m (p + 1) (hm.mono (by omega)) (by omega)) ⟨rfl, rfl, trivial⟩ ⟨rfl, rfl, rfl, rfl, rfl, rfl, trivial⟩ ⟨(kn rfl), ⟨(kn rfl), trivial⟩⟩ (NE.tidy) ?_
  rintro _ _ _ (⟨a, b, z, g, he, rfl, rfl, rfl⟩ | ⟨g, z, ho, rfl, rfl, rfl⟩)
  ·refine l_as ?_
   refine e_nil ?_
   try refine e_fl ?_
   exact e_returnx (mS l g z) (pmR g) rfl (.tmp (kn rfl) (.nil)) (Imp.refl _) ⟨s_b, s_b, trivial⟩ ⟨rfl, rfl, rfl, rfl, rfl, rfl, trivial⟩ (.inl ⟨a, b, z, g, by rw [sPart_oneof h0 h1 h2]; exact he, rfl, rfl, rfl⟩)
  refine l_as ?_
  refine e_nil ?_
  try refine e_fl ?_
  exact e_returnx (mS l g z) (pmR g) rfl (.tmp (kn rfl) (.nil)) (Imp.refl _) ⟨s_b, s_b, trivial⟩ ⟨rfl, rfl, rfl, rfl, rfl, rfl, trivial⟩ (.inr ⟨g, z, by rw [sPart_oneof h0 h1 h2]; exact ho, rfl, rfl, rfl⟩)
 rw [h2]
 try refine e_fl ?_
 refine e_list ?_
 refine l_mv ?_
 refine l_op (s_buildSlice (ds := [_]) [(0, _)] rfl ⟨rfl, (kn rfl), trivial⟩ rfl sl_45 sz_9 zr_9 (fun w D => .cons (.cell _) (.nil _ _)) rfl rfl rfl rfl rfl) ?_
 refine e_calli rfl rfl rfl rfl (by kernel_rfl) (take1 _ l hl [114, 101, 115, 101, 114, 118, 101, 100] 1 rfl (by decide) p (by omega)) ⟨rfl, trivial⟩ trivial ⟨(kn rfl), ⟨(kn rfl), trivial⟩⟩ (fun _ _ _ h => PY.tidy h.1 h.2.1 h.2.2) ?_
 rintro _ _ _ ⟨rfl, rfl, rfl⟩
 refine l_as ?_
 refine e_nil ?_
 try refine e_fl ?_
 refine e_cond rfl (fun h3 => ?_) (fun h3 => ?_)
 ·have hlt := tkIs_lt h3
  rw [h3]
  try refine e_fl ?_
  refine e_list ?_
  refine l_mv ?_
  refine l_mv ?_
  refine e_calli rfl rfl rfl rfl (by kernel_rfl) (reserved_g E8 E9 l hl m (hm.mono (by omega)) (p + 1) (by omega)) ⟨rfl, rfl, trivial⟩ ⟨rfl, rfl, rfl, rfl, rfl, rfl, trivial⟩ ⟨(kn rfl), ⟨(kn rfl), trivial⟩⟩ (NE.tidy) ?_
  rintro _ _ _ (⟨a, b, z, g, he, rfl, rfl, rfl⟩ | ⟨g, z, ho, rfl, rfl, rfl⟩)
  ·refine l_as ?_
   refine e_nil ?_
   try refine e_fl ?_
   exact e_returnx (mS l g z) (pmR g) rfl (.tmp (kn rfl) (.nil)) (Imp.refl _) ⟨s_b, s_b, trivial⟩ ⟨rfl, rfl, rfl, rfl, rfl, rfl, trivial⟩ (.inl ⟨a, b, z, g, by rw [sPart_reserved h0 h1 h2 h3]; exact he, rfl, rfl, rfl⟩)
  refine l_as ?_
  refine e_nil ?_
  try refine e_fl ?_
  exact e_returnx (mS l g z) (pmR g) rfl (.tmp (kn rfl) (.nil)) (Imp.refl _) ⟨s_b, s_b, trivial⟩ ⟨rfl, rfl, rfl, rfl, rfl, rfl, trivial⟩ (.inr ⟨g, z, by rw [sPart_reserved h0 h1 h2 h3]; exact ho, rfl, rfl, rfl⟩)
 rw [h3]
 try refine e_fl ?_
 refine e_list ?_
 refine l_mv ?_
 refine l_op (s_buildSlice (ds := [_]) [(0, _)] rfl ⟨rfl, (kn rfl), trivial⟩ rfl sl_45 sz_9 zr_9 (fun w D => .cons (.cell _) (.nil _ _)) rfl rfl rfl rfl rfl) ?_
 refine e_calli rfl rfl rfl rfl (by kernel_rfl) (take1 _ l hl [114, 101, 112, 101, 97, 116, 101, 100] 1 rfl (by decide) p (by omega)) ⟨rfl, trivial⟩ trivial ⟨(kn rfl), ⟨(kn rfl), trivial⟩⟩ (fun _ _ _ h => PY.tidy h.1 h.2.1 h.2.2) ?_
 rintro _ _ _ ⟨rfl, rfl, rfl⟩
 refine l_as ?_
 refine e_nil ?_
 try refine e_fl ?_
 refine e_cond rfl (fun h4 => ?_) (fun h4 => ?_)
 ·have hlt := tkIs_lt h4
  rw [h4]
  try refine e_fl ?_
  refine e_list ?_
  refine l_mv ?_
  refine l_mv ?_
  refine l_op (s_build (ds := [_, _, _, _, _, _, _, _, _, _]) [(4, _)] rfl ⟨rfl, (kn rfl), trivial⟩ rfl pl_135 zr_135 (fun w D => .cons (.cell _) (.cons (.cell _) (.cons (.cell _) (.cons (.cell _) (.cons (.cell _) (.cons (.cell _) (.cons (.cell _) (.cons (.cell _) (.cons (.cell _) (.cons (.cell _) (.nil _ _))))))))))) rfl) ?_
  refine e_calli rfl rfl rfl rfl (by kernel_rfl) (field_g E8 E9 l hl m (hm.mono (by omega)) (fld0 3 0) (p + 1) (by omega)) ⟨rfl, rfl, trivial⟩ ⟨rfl, rfl, rfl, rfl, rfl, rfl, trivial⟩ ⟨(kn rfl), ⟨(kn rfl), ⟨(kn rfl), trivial⟩⟩⟩ (NE.tidy) ?_
  rintro _ _ _ (⟨a, b, z, g, he, rfl, rfl, rfl⟩ | ⟨g, z, ho, rfl, rfl, rfl⟩)
  ·refine l_as ?_
   refine e_nil ?_
   try refine e_fl ?_
   exact e_returnx (mS l g z) (pmR g) rfl (.tmp (kn rfl) (.nil)) (Imp.refl _) ⟨s_b, s_b, trivial⟩ ⟨rfl, rfl, rfl, rfl, rfl, rfl, trivial⟩ (.inl ⟨a, b, z, g, by rw [sPart_repeated h0 h1 h2 h3 h4]; exact he, rfl, rfl, rfl⟩)
  refine l_as ?_
  refine e_nil ?_
  try refine e_fl ?_
  exact e_returnx (mS l g z) (pmR g) rfl (.tmp (kn rfl) (.nil)) (Imp.refl _) ⟨s_b, s_b, trivial⟩ ⟨rfl, rfl, rfl, rfl, rfl, rfl, trivial⟩ (.inr ⟨g, z, by rw [sPart_repeated h0 h1 h2 h3 h4]; exact ho, rfl, rfl, rfl⟩)
 rw [h4]
 try refine e_fl ?_
 refine e_list ?_
 refine l_mv ?_
 refine l_op (s_buildSlice (ds := [_]) [(0, _)] rfl ⟨rfl, (kn rfl), trivial⟩ rfl sl_45 sz_9 zr_9 (fun w D => .cons (.cell _) (.nil _ _)) rfl rfl rfl rfl rfl) ?_
 refine e_calli rfl rfl rfl rfl (by kernel_rfl) (take1 _ l hl [111, 112, 116, 105, 111, 110, 97, 108] 1 rfl (by decide) p (by omega)) ⟨rfl, trivial⟩ trivial ⟨(kn rfl), ⟨(kn rfl), trivial⟩⟩ (fun _ _ _ h => PY.tidy h.1 h.2.1 h.2.2) ?_
 rintro _ _ _ ⟨rfl, rfl, rfl⟩
 refine l_as ?_
 refine e_nil ?_
 try refine e_fl ?_
 refine e_cond rfl (fun h5 => ?_) (fun h5 => ?_)
 ·have hlt := tkIs_lt h5
  rw [h5]
  try refine e_fl ?_
  refine e_list ?_
  refine l_mv ?_
  refine l_mv ?_
  refine l_op (s_build (ds := [_, _, _, _, _, _, _, _, _, _]) [(4, _)] rfl ⟨rfl, (kn rfl), trivial⟩ rfl pl_135 zr_135 (fun w D => .cons (.cell _) (.cons (.cell _) (.cons (.cell _) (.cons (.cell _) (.cons (.cell _) (.cons (.cell _) (.cons (.cell _) (.cons (.cell _) (.cons (.cell _) (.cons (.cell _) (.nil _ _))))))))))) rfl) ?_
  refine e_calli rfl rfl rfl rfl (by kernel_rfl) (field_g E8 E9 l hl m (hm.mono (by omega)) (fld0 2 0) (p + 1) (by omega)) ⟨rfl, rfl, trivial⟩ ⟨rfl, rfl, rfl, rfl, rfl, rfl, trivial⟩ ⟨(kn rfl), ⟨(kn rfl), ⟨(kn rfl), trivial⟩⟩⟩ (NE.tidy) ?_
  rintro _ _ _ (⟨a, b, z, g, he, rfl, rfl, rfl⟩ | ⟨g, z, ho, rfl, rfl, rfl⟩)
  ·refine l_as ?_
   refine e_nil ?_
   try refine e_fl ?_
   exact e_returnx (mS l g z) (pmR g) rfl (.tmp (kn rfl) (.nil)) (Imp.refl _) ⟨s_b, s_b, trivial⟩ ⟨rfl, rfl, rfl, rfl, rfl, rfl, trivial⟩ (.inl ⟨a, b, z, g, by rw [sPart_optional h0 h1 h2 h3 h4 h5]; exact he, rfl, rfl, rfl⟩)
  refine l_as ?_
  refine e_nil ?_
  try refine e_fl ?_
  exact e_returnx (mS l g z) (pmR g) rfl (.tmp (kn rfl) (.nil)) (Imp.refl _) ⟨s_b, s_b, trivial⟩ ⟨rfl, rfl, rfl, rfl, rfl, rfl, trivial⟩ (.inr ⟨g, z, by rw [sPart_optional h0 h1 h2 h3 h4 h5]; exact ho, rfl, rfl, rfl⟩)
 rw [h5]
 try refine e_fl ?_
 refine e_list ?_
 refine l_mv ?_
 refine l_op (s_buildSlice (ds := [_, _]) [(0, _), (1, _)] rfl ⟨rfl, (kn rfl), ⟨rfl, (kn rfl), trivial⟩⟩ rfl sl_45 sz_9 zr_9 (fun w D => .cons (.cell _) (.cons (.cell _) (.nil _ _))) rfl rfl rfl rfl rfl) ?_
 refine e_calli rfl rfl rfl rfl (by kernel_rfl) (take_g _ l hl [[109, 97, 112], [60]] (by decide) (by decide) p (by omega)) ⟨rfl, trivial⟩ trivial ⟨(kn rfl), ⟨(kn rfl), trivial⟩⟩ (fun _ _ _ h => PY.tidy h.1 h.2.1 h.2.2) ?_
 rintro _ _ _ ⟨rfl, rfl, rfl⟩
 refine l_as ?_
 refine e_nil ?_
 try refine e_fl ?_
 have hmap : takesOk l [[109, 97, 112], [60]] p = (tkIs l p 1 [109, 97, 112] && tkIs l (p + 1) 4 [60]) := by
  simp only [takesOk, Bool.and_true]
  rfl
 refine e_cond rfl (fun h6 => ?_) (fun h6 => ?_)
 ·have h7 := h6
  rw [hmap, Bool.and_eq_true] at h7
  have hlt := tkIs_lt h7.2
  rw [h6]
  try refine e_fl ?_
  refine e_list ?_
  refine l_mv ?_
  refine l_mv ?_
  refine e_calli rfl rfl rfl rfl (by kernel_rfl) (mapField_g E8 E9 l hl m (hm.mono (by omega)) (p + 1) (by omega) h7.2) ⟨rfl, rfl, trivial⟩ ⟨rfl, rfl, rfl, rfl, rfl, rfl, trivial⟩ ⟨(kn rfl), ⟨(kn rfl), trivial⟩⟩ (NE.tidy) ?_
  rintro _ _ _ (⟨a, b, z, g, he, rfl, rfl, rfl⟩ | ⟨g, z, ho, rfl, rfl, rfl⟩)
  ·refine l_as ?_
   refine e_nil ?_
   try refine e_fl ?_
   exact e_returnx (mS l g z) (pmR g) rfl (.tmp (kn rfl) (.nil)) (Imp.refl _) ⟨s_b, s_b, trivial⟩ ⟨rfl, rfl, rfl, rfl, rfl, rfl, trivial⟩ (.inl ⟨a, b, z, g, by rw [sPart_map h7.1 h7.2]; exact he, rfl, rfl, rfl⟩)
  refine l_as ?_
  refine e_nil ?_
  try refine e_fl ?_
  exact e_returnx (mS l g z) (pmR g) rfl (.tmp (kn rfl) (.nil)) (Imp.refl _) ⟨s_b, s_b, trivial⟩ ⟨rfl, rfl, rfl, rfl, rfl, rfl, trivial⟩ (.inr ⟨g, z, by rw [sPart_map h7.1 h7.2]; exact ho, rfl, rfl, rfl⟩)
 have h7 := h6
 rw [hmap] at h7
 rw [h6]
 try refine e_fl ?_
 refine e_list ?_
 refine l_mv ?_
 refine l_mv ?_
 refine l_op (s_build (ds := [_, _, _, _, _, _, _, _, _, _]) [(4, _)] rfl ⟨rfl, (kn rfl), trivial⟩ rfl pl_135 zr_135 (fun w D => .cons (.cell _) (.cons (.cell _) (.cons (.cell _) (.cons (.cell _) (.cons (.cell _) (.cons (.cell _) (.cons (.cell _) (.cons (.cell _) (.cons (.cell _) (.cons (.cell _) (.nil _ _))))))))))) rfl) ?_
 refine e_calli rfl rfl rfl rfl (by kernel_rfl) (field_g E8 E9 l hl m (hm.mono (by omega)) (fld0 1 0) p (by omega)) ⟨rfl, rfl, trivial⟩ ⟨rfl, rfl, rfl, rfl, rfl, rfl, trivial⟩ ⟨(kn rfl), ⟨(kn rfl), ⟨(kn rfl), trivial⟩⟩⟩ (NE.tidy) ?_
 rintro _ _ _ (⟨a, b, z, g, he, rfl, rfl, rfl⟩ | ⟨g, z, ho, rfl, rfl, rfl⟩)
 ·refine l_as ?_
  refine e_nil ?_
  try refine e_fl ?_
  exact e_returnx (mS l g z) (pmR g) rfl (.tmp (kn rfl) (.nil)) (Imp.refl _) ⟨s_b, s_b, trivial⟩ ⟨rfl, rfl, rfl, rfl, rfl, rfl, trivial⟩ (.inl ⟨a, b, z, g, by rw [sPart_else h0 h1 h2 h3 h4 h5 h7]; exact he, rfl, rfl, rfl⟩)
 refine l_as ?_
 refine e_nil ?_
 try refine e_fl ?_
 exact e_returnx (mS l g z) (pmR g) rfl (.tmp (kn rfl) (.nil)) (Imp.refl _) ⟨s_b, s_b, trivial⟩ ⟨rfl, rfl, rfl, rfl, rfl, rfl, trivial⟩ (.inr ⟨g, z, by rw [sPart_else h0 h1 h2 h3 h4 h5 h7]; exact ho, rfl, rfl, rfl⟩)
end Go.Proofs.YtekeanikgcpijaaDoor
namespace Go.Proofs.YtekeanikgcpijaaDoor
open Go.RowKit
abbrev inX (wi : Nat) : Bx := ⟨3, [.is (.int .i64 (wi : Int))]⟩
abbrev mW (l : List Tk) (wi : Nat) (m : Msg) (q : Nat) : BL := [(4, ptX), (10, inX wi), (1, pX l q), (3, pmX m)]
abbrev VM (l : List Tk) (E8 E9 : Er) (wi : Nat) (r : Ans8 (Msg × Nat)) (y : IV) (B1 : BL) (R1 : RL) : Prop := ME l E8 E9 (mW l wi) pmR r y B1 R1
theorem VM.tidy {l : List Tk} {E8 E9 : Er} {wi : Nat} {r : Ans8 (Msg × Nat)} {m : Msg} {q : Nat} (y : IV) (B1 : BL) (R1 : RL) (h : VM l E8 E9 wi r y B1 R1) : Tidy (mW l wi m q) (pmR m) y B1 R1 := by
 rcases h with ⟨a, b, z, x, _, rfl, rfl, rfl⟩ | ⟨x, z, _, rfl, rfl, rfl⟩ <;> exact ⟨rfl, rfl, rfl, rfl⟩
abbrev cloM : IV := .clo (.func 65) [] [.box 4 0, .box 3 0, .box 10 0]
set_option maxRecDepth 100000 in
theorem cloM_g (E8 E9 : Er) (l : List Tk) (hl : PTk l) (wi : Nat) (hw : wi ≤ 8) (sub : Nat → Ans8 (Msg × Nat)) (hM : Within E8 E9 l wi sub) (m : Msg) (hm : Small m 1000000000) (p : Nat) (hp : p ≤ 100000) : EG Tryd.prog (gE E8 E9) 65 [.box 4 0, .box 3 0, .box 10 0] (mW l wi m p) (pmR m) (VM l E8 E9 wi (sPart l sub m p)) := by
 refine eg_enter 7 Tryd.func65 rfl rfl rfl fun w D bor mb => ?_
 try refine e_fl ?_
 refine e_plain (w_as rfl rfl rfl rfl rfl .nil) ?_
 try refine e_fl ?_
 refine e_list ?_
 refine l_op (s_load1_box rfl (kn rfl) rfl rfl one_86) ?_
 refine l_op (s_load1_box rfl (kn rfl) rfl rfl one_3) ?_
 refine e_calli rfl rfl rfl rfl (by kernel_rfl) (part_g E8 E9 l hl wi hw sub hM m hm p hp) ⟨rfl, rfl, trivial⟩ ⟨rfl, rfl, rfl, rfl, rfl, rfl, trivial⟩ ⟨(kn rfl), ⟨(kn rfl), ⟨(kn rfl), trivial⟩⟩⟩ (NE.tidy) ?_
 rintro _ _ _ (⟨a, b, z, g, he, rfl, rfl, rfl⟩ | ⟨g, z, ho, rfl, rfl, rfl⟩)
 ·refine l_as ?_
  refine e_nil ?_
  try refine e_fl ?_
  exact e_returnx (mW l wi g z) (pmR g) rfl (.tmp (kn rfl) (.nil)) (Imp.refl _) ⟨s_b, s_b, s_b, s_b, trivial⟩ ⟨rfl, rfl, rfl, rfl, rfl, rfl, trivial⟩ (.inl ⟨a, b, z, g, he, rfl, rfl, rfl⟩)
 ·refine l_as ?_
  refine e_nil ?_
  try refine e_fl ?_
  exact e_returnx (mW l wi g z) (pmR g) rfl (.tmp (kn rfl) (.nil)) (Imp.refl _) ⟨s_b, s_b, s_b, s_b, trivial⟩ ⟨rfl, rfl, rfl, rfl, rfl, rfl, trivial⟩ (.inr ⟨g, z, ho, rfl, rfl, rfl⟩)
def Bd_blkM (m : Msg) (z : Nat) : Prop := FineTo m z
set_option maxRecDepth 100000 in
set_option maxHeartbeats 2000000 in
theorem blkM (E8 E9 : Er) (l : List Tk) (hl : PTk l) (wi : Nat) (hw8 : wi ≤ 8) (sub : Nat → Ans8 (Msg × Nat)) (hM : Within E8 E9 l wi sub) (hst : Steps l sub) (hsf : ∀ p x q, sub p = .ok (x, q) → x.fine) (x0 : Msg) (p : Nat) (hp : p ≤ 100000) (hx0 : ∀ q, p < q → Bd_blkM x0 q) : EG Tryd.prog (gE E8 E9) 64 [.box 1 0, .part (iP 0), cloM] (mW l wi x0 p) (pmR x0) (ME l E8 E9 (mW l wi) (pmR) (sBlock l 0 (sPart l sub) x0 p)) := by
 refine eg_enter 35 Tryd.func64 rfl rfl rfl fun w D bor mb => ?_
 try refine e_fl ?_
 have hll := hl.len
 obtain ⟨rr, hrr⟩ : ∃ rr, rr = sBlock l 0 (sPart l sub) x0 p := ⟨_, rfl⟩
 rw [← hrr]
 refine e_plain (w_as rfl rfl rfl rfl rfl .nil) ?_
 try refine e_fl ?_
 refine e_list ?_
 refine l_mv ?_
 refine l_op (s_buildSlice (ds := [_]) [(0, _)] rfl ⟨rfl, (kn rfl), trivial⟩ rfl sl_45 sz_9 zr_9 (fun w D => .cons (.cell _) (.nil _ _)) rfl rfl rfl rfl rfl) ?_
 refine e_calli rfl rfl rfl rfl (by kernel_rfl) (want1_g E8 E9 l hl 4 [123] rfl (by decide) p (by omega)) ⟨rfl, trivial⟩ trivial ⟨(kn rfl), ⟨(kn rfl), trivial⟩⟩ (PE.tidy) ?_
 rintro _ _ _ (⟨a, b, z, he, rfl, rfl, rfl⟩ | ⟨q0, ho, rfl, rfl, rfl⟩)
 ·refine l_as ?_
  refine e_nil ?_
  try refine e_fl ?_
  refine e_plain (w_mv rfl rfl rfl rfl rfl (w_op rfl rfl rfl (s_err_neq rfl (kn rfl) rfl ifc_30) .nil)) ?_
  try refine e_fl ?_
  refine c_yes ?_
  try refine e_fl ?_
  refine e_plain (w_mv rfl rfl rfl rfl rfl (w_as rfl rfl rfl rfl rfl .nil)) ?_
  try refine e_fl ?_
  exact e_returnx (mW l wi x0 z) (pmR x0) rfl (.tmp (kn rfl) (.nil)) (Imp.refl _) ⟨s_b, s_b, s_b, s_b, trivial⟩ ⟨rfl, rfl, rfl, rfl, rfl, rfl, trivial⟩ (.inl ⟨a, b, z, x0, by rw [hrr, sBlock, he], rfl, rfl, rfl⟩)
 have ho1 := sWant_ok ho
 refine l_as ?_
 refine e_nil ?_
 try refine e_fl ?_
 refine e_plain (w_mv rfl rfl rfl rfl rfl (w_op rfl rfl rfl (s_nil_neq rfl (kn rfl) ifc_30) .nil)) ?_
 try refine e_fl ?_
 refine c_no ?_
 try refine e_fl ?_
 refine e_plain (w_as rfl rfl rfl rfl rfl .nil) ?_
 try refine e_fl ?_
 rw [sBlock, ho] at hrr
 dsimp only at hrr
 refine e_loop (ι := { i : Nat × Msg × Nat × Nat // 1 ≤ i.1 ∧ l.length + 1 ≤ i.1 + i.2.2.2 ∧ i.2.2.2 ≤ l.length ∧ i.2.2.1 ≤ i.2.2.2 ∧ Bd_blkM i.2.1 i.2.2.2 ∧ rr = sBlk l 0 (sPart l sub) i.1 i.2.1 i.2.2.1 i.2.2.2 })
  (fun i => [(0, .box 1 0), (1, .part (iP 0)), (2, cloM), (8, .is (.int .i64 (i.1.2.2.1 : Int)))])
  (fun i => mW l wi i.1.2.1 i.1.2.2.2) (fun i => pmR i.1.2.1)
  (fun i => i.1.1) ⟨(l.length + 1, x0, 0, q0), by omega, by dsimp only; omega, by dsimp only; omega, by dsimp only; omega, hx0 q0 (by omega), hrr⟩
  (fun K => e_sub ⟨s_t, s_t, s_t, s_t, trivial⟩ ⟨s_b, s_b, s_b, s_b, trivial⟩ ⟨rfl, rfl, rfl, rfl, rfl, rfl, trivial⟩) ?_
 rintro ⟨⟨n', x, k, q⟩, hn1, hn, hq, hk, hbd, hw⟩
 dsimp only at hn1 hn hq hk hbd hw ⊢
 obtain ⟨n, rfl⟩ : ∃ n, n' = n + 1 := ⟨n' - 1, by omega⟩
 rw [sBlk] at hw
 try refine e_fl ?_
 refine e_list ?_
 refine l_mv ?_
 refine l_mv ?_
 refine l_op (s_bin rfl (kn rfl) (kn rfl) v_lss) ?_
 refine l_mv ?_
 refine e_list_gd rfl rfl rfl (fun h => s_move rfl (kn rfl)) ?_
 refine e_list_gd rfl rfl rfl (fun h => s_buildSlice (ds := [_]) [(0, _)] rfl ⟨rfl, (kn rfl), trivial⟩ rfl sl_45 sz_9 zr_9 (fun w D => .cons (.cell _) (.nil _ _)) rfl rfl rfl rfl rfl) ?_
 refine e_guard rfl rfl rfl (fun h => ?_) (fun h => ?_)
 ·have hkl : ¬ k < 0 := by
   have h0 := of_decide_eq_false (not_t h)
   omega
  refine e_calli rfl rfl rfl rfl (by kernel_rfl) (take1 _ l hl [125] 4 rfl (by decide) q (by omega)) ⟨rfl, trivial⟩ trivial ⟨(kn_opt rfl h), ⟨(kn_opt rfl h), trivial⟩⟩ (fun _ _ _ h => PY.tidy h.1 h.2.1 h.2.2) ?_
  rintro _ _ _ ⟨rfl, rfl, rfl⟩
  refine e_list_gd rfl rfl rfl (fun h => s_not rfl (kn rfl)) ?_
  refine l_op (s_or rfl (kn rfl) (fun hb => kn_opt rfl hb)) ?_
  refine e_nil ?_
  try refine e_fl ?_
  have h0 := not_t h
  rw [h0, Bool.false_or]
  rw [decide_eq_false hkl, Bool.false_or] at hw
  cases h1 : tkIs l q 4 [125]
  ·rw [h1] at hw
   rw [if_neg (by decide)] at hw
   refine c_yes ?_
   try refine e_fl ?_
   refine e_list ?_
   refine l_mv ?_
   refine l_op (s_buildSlice (ds := [_]) [(0, _)] rfl ⟨rfl, (kn rfl), trivial⟩ rfl sl_45 sz_9 zr_9 (fun w D => .cons (.cell _) (.nil _ _)) rfl rfl rfl rfl rfl) ?_
   refine e_calli rfl rfl rfl rfl (by kernel_rfl) (take1 _ l hl [59] 4 rfl (by decide) q (by omega)) ⟨rfl, trivial⟩ trivial ⟨(kn rfl), ⟨(kn rfl), trivial⟩⟩ (fun _ _ _ h => PY.tidy h.1 h.2.1 h.2.2) ?_
   rintro _ _ _ ⟨rfl, rfl, rfl⟩
   refine e_nil ?_
   try refine e_fl ?_
   refine e_cond rfl (fun h2 => ?_) (fun h2 => ?_)
   ·have hlt := tkIs_lt h2
    rw [if_pos h2] at hw
    rw [h2]
    try refine e_fl ?_
    refine e_again ⟨(n, x, k, q + 1), by omega, by dsimp only; omega, by dsimp only; omega, by dsimp only; omega, ⟨hbd.1.mono (by dsimp only; omega), hbd.2⟩, hw⟩ (by dsimp only; omega) (fun K => e_sub ⟨s_t, s_t, s_t, s_t, trivial⟩ ⟨s_b, s_b, s_b, s_b, trivial⟩ ⟨rfl, rfl, rfl, rfl, rfl, rfl, trivial⟩)
   rw [if_neg (by rw [h2]; decide)] at hw
   rw [h2]
   try refine e_fl ?_
   refine e_list ?_
   refine l_mv ?_
   refine e_callci (zs := []) rfl rfl rfl rfl (by kernel_rfl) (cloM_g E8 E9 l hl wi hw8 sub hM x (hbd.1.mono (by omega)) q (by omega)) ⟨rfl, rfl, rfl, rfl, trivial⟩ ⟨rfl, rfl, rfl, rfl, rfl, rfl, trivial⟩ (kn rfl) trivial rfl (VM.tidy) ?_
   rintro _ _ _ (⟨a, b, z, g, he, rfl, rfl, rfl⟩ | ⟨y, r, ho, rfl, rfl, rfl⟩)
   ·refine l_as ?_
    refine e_nil ?_
    try refine e_fl ?_
    refine e_plain (w_mv rfl rfl rfl rfl rfl (w_op rfl rfl rfl (s_err_neq rfl (kn rfl) rfl ifc_30) .nil)) ?_
    try refine e_fl ?_
    refine c_yes ?_
    try refine e_fl ?_
    refine e_plain (w_mv rfl rfl rfl rfl rfl (w_as rfl rfl rfl rfl rfl .nil)) ?_
    try refine e_fl ?_
    exact e_returnx (mW l wi g z) (pmR g) rfl (.tmp (kn rfl) (.nil)) (Imp.refl _) ⟨s_b, s_b, s_b, s_b, trivial⟩ ⟨rfl, rfl, rfl, rfl, rfl, rfl, trivial⟩ (.inl ⟨a, b, z, g, by rw [hw, he], rfl, rfl, rfl⟩)
   rw [ho] at hw
   dsimp only at hw
   have hv := sPart_ok hst ho
   have hby : Bd_blkM y r := by
    have h := sPart_fine hl.len hst hsf hbd ho
    rwa [show q + (r - q) = r by omega] at h
   refine l_as ?_
   refine e_nil ?_
   try refine e_fl ?_
   refine e_plain (w_mv rfl rfl rfl rfl rfl (w_op rfl rfl rfl (s_nil_neq rfl (kn rfl) ifc_30) .nil)) ?_
   try refine e_fl ?_
   refine c_no ?_
   try refine e_fl ?_
   refine e_plain (w_mv rfl rfl rfl rfl rfl (w_op rfl rfl rfl (s_bin rfl (kn rfl) (kn rfl) (v_add64 (by first | omega | (dsimp only; omega) | omega))) (w_as rfl rfl rfl rfl rfl .nil))) ?_
   try refine e_fl ?_
   refine e_again ⟨(n, y, k + 1, r), by omega, by dsimp only; omega, by dsimp only; omega, by dsimp only; omega, hby, hw⟩ (by dsimp only; omega) (fun K => e_sub ⟨s_t, s_t, s_t, s_t, trivial⟩ ⟨s_b, s_b, s_b, s_b, trivial⟩ ⟨rfl, rfl, rfl, rfl, rfl, rfl, trivial⟩)
  ·rw [h1] at hw
   rw [if_pos (by decide)] at hw
   refine c_no ?_
   try refine e_fl ?_
   refine e_plain (w_as rfl rfl rfl rfl rfl .nil) ?_
   try refine e_fl ?_
   exact e_returnx (mW l wi x (q + 1)) (pmR x) rfl (.tmp (kn rfl) (.nil)) (Imp.refl _) ⟨s_b, s_b, s_b, s_b, trivial⟩ ⟨rfl, rfl, rfl, rfl, rfl, rfl, trivial⟩ (.inr ⟨x, q + 1, hw, rfl, rfl, rfl⟩)
 ·have hkl : k < 0 := by
   have h0 := of_decide_eq_true (not_f h)
   omega
  have h0 := not_f h
  refine e_list_gd (y := .is (.bool false)) rfl rfl rfl (fun h' => absurd (h'.symm.trans h) (by decide)) ?_
  refine l_op (s_or rfl (kn rfl) (fun hb => kn_opt rfl hb)) ?_
  refine e_nil ?_
  try refine e_fl ?_
  rw [h0, Bool.true_or]
  rw [decide_eq_true hkl, Bool.true_or] at hw
  rw [if_neg (by decide)] at hw
  refine c_yes ?_
  try refine e_fl ?_
  refine e_list ?_
  refine l_mv ?_
  refine l_op (s_buildSlice (ds := [_]) [(0, _)] rfl ⟨rfl, (kn rfl), trivial⟩ rfl sl_45 sz_9 zr_9 (fun w D => .cons (.cell _) (.nil _ _)) rfl rfl rfl rfl rfl) ?_
  refine e_calli rfl rfl rfl rfl (by kernel_rfl) (take1 _ l hl [59] 4 rfl (by decide) q (by omega)) ⟨rfl, trivial⟩ trivial ⟨(kn rfl), ⟨(kn rfl), trivial⟩⟩ (fun _ _ _ h => PY.tidy h.1 h.2.1 h.2.2) ?_
  rintro _ _ _ ⟨rfl, rfl, rfl⟩
  refine e_nil ?_
  try refine e_fl ?_
  refine e_cond rfl (fun h2 => ?_) (fun h2 => ?_)
  ·have hlt := tkIs_lt h2
   rw [if_pos h2] at hw
   rw [h2]
   try refine e_fl ?_
   refine e_again ⟨(n, x, k, q + 1), by omega, by dsimp only; omega, by dsimp only; omega, by dsimp only; omega, ⟨hbd.1.mono (by dsimp only; omega), hbd.2⟩, hw⟩ (by dsimp only; omega) (fun K => e_sub ⟨s_t, s_t, s_t, s_t, trivial⟩ ⟨s_b, s_b, s_b, s_b, trivial⟩ ⟨rfl, rfl, rfl, rfl, rfl, rfl, trivial⟩)
  rw [if_neg (by rw [h2]; decide)] at hw
  rw [h2]
  try refine e_fl ?_
  refine e_list ?_
  refine l_mv ?_
  refine e_callci (zs := []) rfl rfl rfl rfl (by kernel_rfl) (cloM_g E8 E9 l hl wi hw8 sub hM x (hbd.1.mono (by omega)) q (by omega)) ⟨rfl, rfl, rfl, rfl, trivial⟩ ⟨rfl, rfl, rfl, rfl, rfl, rfl, trivial⟩ (kn rfl) trivial rfl (VM.tidy) ?_
  rintro _ _ _ (⟨a, b, z, g, he, rfl, rfl, rfl⟩ | ⟨y, r, ho, rfl, rfl, rfl⟩)
  ·refine l_as ?_
   refine e_nil ?_
   try refine e_fl ?_
   refine e_plain (w_mv rfl rfl rfl rfl rfl (w_op rfl rfl rfl (s_err_neq rfl (kn rfl) rfl ifc_30) .nil)) ?_
   try refine e_fl ?_
   refine c_yes ?_
   try refine e_fl ?_
   refine e_plain (w_mv rfl rfl rfl rfl rfl (w_as rfl rfl rfl rfl rfl .nil)) ?_
   try refine e_fl ?_
   exact e_returnx (mW l wi g z) (pmR g) rfl (.tmp (kn rfl) (.nil)) (Imp.refl _) ⟨s_b, s_b, s_b, s_b, trivial⟩ ⟨rfl, rfl, rfl, rfl, rfl, rfl, trivial⟩ (.inl ⟨a, b, z, g, by rw [hw, he], rfl, rfl, rfl⟩)
  rw [ho] at hw
  dsimp only at hw
  have hv := sPart_ok hst ho
  have hby : Bd_blkM y r := by
   have h := sPart_fine hl.len hst hsf hbd ho
   rwa [show q + (r - q) = r by omega] at h
  refine l_as ?_
  refine e_nil ?_
  try refine e_fl ?_
  refine e_plain (w_mv rfl rfl rfl rfl rfl (w_op rfl rfl rfl (s_nil_neq rfl (kn rfl) ifc_30) .nil)) ?_
  try refine e_fl ?_
  refine c_no ?_
  try refine e_fl ?_
  refine e_plain (w_mv rfl rfl rfl rfl rfl (w_op rfl rfl rfl (s_bin rfl (kn rfl) (kn rfl) (v_add64 (by first | omega | (dsimp only; omega) | omega))) (w_as rfl rfl rfl rfl rfl .nil))) ?_
  try refine e_fl ?_
  refine e_again ⟨(n, y, k + 1, r), by omega, by dsimp only; omega, by dsimp only; omega, by dsimp only; omega, hby, hw⟩ (by dsimp only; omega) (fun K => e_sub ⟨s_t, s_t, s_t, s_t, trivial⟩ ⟨s_b, s_b, s_b, s_b, trivial⟩ ⟨rfl, rfl, rfl, rfl, rfl, rfl, trivial⟩)
end Go.Proofs.YtekeanikgcpijaaDoor
