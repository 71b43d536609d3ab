/- Part 17 of what the last text of this claim is proved by: walks over the program, and the math behind them. Conditions: as each theorem says. -/
import Derived.Test.YtekeanikgcpijaaGreatDoorST16
import Derived.Test.YtekeanikgcpijaaGreatDoorProg
namespace Go.Proofs.YtekeanikgcpijaaGreatDoor
open Go.RowKit
theorem sOption_eq (l : List Tk) (f : Fld) (p : Nat) : sOption l f p = if tkIs l p 1 [112, 97, 99, 107, 101, 100] && decide (f.packed = 0) then sPacked l f (p + 1) else if tkIs l p 1 [107, 101, 121] && decide (f.key = []) then sKey l f (p + 1) else form8 p := rfl
set_option maxRecDepth 100000 in
set_option maxHeartbeats 1000000 in
theorem option_g (E8 E9 : Er) (l : List Tk) (hl : PTk l) (f : Fld) (p : Nat) (hp : p ≤ 100000) : EG Tryz.prog (gE E8 E9) 123 [.box 1 0, .box 2 0] (fB l f p) [] (FE l E8 E9 (sOption l f p)) := by
 refine eg_enter 35 Tryz.func123 rfl rfl rfl fun w D bor mb => ?_
 try refine e_fl ?_
 have hll := hl.len
 refine e_plain (w_as rfl rfl rfl rfl rfl .nil) ?_
 try refine e_fl ?_
 refine e_list ?_
 refine l_mv ?_
 refine l_op (s_nil_box rfl (kn rfl)) ?_
 refine l_op (s_faddr_box rfl (kn rfl) off_110_6) ?_
 refine l_op (s_load1_box rfl (kn rfl) rfl rfl one_3) ?_
 refine l_op (s_bin rfl (kn rfl) (kn rfl) v_eql) ?_
 refine l_mv ?_
 refine e_list_gd rfl rfl rfl (fun h => s_move rfl (kn rfl)) ?_
 refine e_list_gd rfl rfl rfl (fun h => s_buildSlice (ds := [_]) [(0, _)] rfl ⟨rfl, (kn rfl), trivial⟩ rfl sl_45 sz_9 zr_9 (fun w D => .cons (.cell _) (.nil _ _)) rfl rfl rfl rfl rfl) ?_
 refine e_guard rfl rfl rfl (fun h => ?_) (fun h => ?_)
 ·refine e_calli rfl rfl rfl rfl (by kernel_rfl) (take1 _ l hl [112, 97, 99, 107, 101, 100] 1 rfl (by decide) p (by omega)) ⟨rfl, trivial⟩ trivial ⟨(kn_opt rfl h), ⟨(kn_opt rfl h), trivial⟩⟩ (fun _ _ _ h => PY.tidy h.1 h.2.1 h.2.2) ?_
  rintro _ _ _ ⟨rfl, rfl, rfl⟩
  refine l_op (s_and rfl (kn rfl) (fun _ => kn rfl)) ?_
  refine l_as ?_
  refine e_nil ?_
  try refine e_fl ?_
  refine e_cond rfl (fun hc => ?_) (fun hc => ?_)
  ·have h2 : tkIs l p 1 [112, 97, 99, 107, 101, 100] = true := (Bool.and_eq_true _ _ ▸ hc).2
   have hlt := tkIs_lt h2
   have hw : sOption l f p = sPacked l f (p + 1) := by rw [sOption_eq, h2, h]; rfl
   rw [h2]
   try refine e_fl ?_
   refine e_list ?_
   refine l_mv ?_
   refine l_mv ?_
   refine e_calli rfl rfl rfl rfl (by kernel_rfl) (packed_g E8 E9 l hl f (p + 1) (by omega)) ⟨rfl, rfl, trivial⟩ trivial ⟨(kn rfl), ⟨(kn rfl), trivial⟩⟩ (FE.tidy) ?_
   rintro _ _ _ (⟨a, b, z, g, he, rfl, rfl, rfl⟩ | ⟨g, z, ho, rfl, rfl, rfl⟩)
   ·refine l_as ?_
    refine e_nil ?_
    try refine e_fl ?_
    exact e_returnx (fB l g z) ([]) rfl (.tmp (kn rfl) (.nil)) (Imp.refl _) ⟨s_b, s_b, trivial⟩ trivial (.inl ⟨a, b, z, g, hw.trans he, rfl, rfl, rfl⟩)
   ·refine l_as ?_
    refine e_nil ?_
    try refine e_fl ?_
    exact e_returnx (fB l g z) ([]) rfl (.tmp (kn rfl) (.nil)) (Imp.refl _) ⟨s_b, s_b, trivial⟩ trivial (.inr ⟨g, z, hw.trans ho, rfl, rfl, rfl⟩)
  ·have h2 : tkIs l p 1 [112, 97, 99, 107, 101, 100] = false := by
    rw [h, Bool.true_and] at hc
    exact hc
   have hnp : (tkIs l p 1 [112, 97, 99, 107, 101, 100] && decide (f.packed = 0)) = false := by rw [h2]; rfl
   rw [h2]
   try refine e_fl ?_
   refine e_list ?_
   refine l_mv ?_
   refine l_op (s_nil_box rfl (kn rfl)) ?_
   refine l_op (s_faddr_box rfl (kn rfl) off_110_3) ?_
   refine l_op (s_load1_box rfl (kn rfl) rfl rfl one_9) ?_
   refine l_op (s_bin rfl (kn rfl) (kn rfl) (v_seql (b := []))) ?_
   refine l_mv ?_
   refine e_list_gd rfl rfl rfl (fun h => s_move rfl (kn rfl)) ?_
   refine e_list_gd rfl rfl rfl (fun h => s_buildSlice (ds := [_]) [(0, _)] rfl ⟨rfl, (kn rfl), trivial⟩ rfl sl_45 sz_9 zr_9 (fun w D => .cons (.cell _) (.nil _ _)) rfl rfl rfl rfl rfl) ?_
   refine e_guard rfl rfl rfl (fun h => ?_) (fun h => ?_)
   ·refine e_calli rfl rfl rfl rfl (by kernel_rfl) (take1 _ l hl [107, 101, 121] 1 rfl (by decide) p (by omega)) ⟨rfl, trivial⟩ trivial ⟨(kn_opt rfl h), ⟨(kn_opt rfl h), trivial⟩⟩ (fun _ _ _ h => PY.tidy h.1 h.2.1 h.2.2) ?_
    rintro _ _ _ ⟨rfl, rfl, rfl⟩
    refine l_op (s_and rfl (kn rfl) (fun _ => kn rfl)) ?_
    refine l_as ?_
    refine e_nil ?_
    try refine e_fl ?_
    refine e_cond rfl (fun hc => ?_) (fun hc => ?_)
    ·have h2 : tkIs l p 1 [107, 101, 121] = true := (Bool.and_eq_true _ _ ▸ hc).2
     have hlt := tkIs_lt h2
     have hw : sOption l f p = sKey l f (p + 1) := by rw [sOption_eq, hnp, if_neg (by decide), h2, h]; rfl
     rw [h2]
     try refine e_fl ?_
     refine e_list ?_
     refine l_mv ?_
     refine l_mv ?_
     refine e_calli rfl rfl rfl rfl (by kernel_rfl) (key_g E8 E9 l hl f (p + 1) (by omega)) ⟨rfl, rfl, trivial⟩ trivial ⟨(kn rfl), ⟨(kn rfl), trivial⟩⟩ (FE.tidy) ?_
     rintro _ _ _ (⟨a, b, z, g, he, rfl, rfl, rfl⟩ | ⟨g, z, ho, rfl, rfl, rfl⟩)
     ·refine l_as ?_
      refine e_nil ?_
      try refine e_fl ?_
      exact e_returnx (fB l g z) ([]) rfl (.tmp (kn rfl) (.nil)) (Imp.refl _) ⟨s_b, s_b, trivial⟩ trivial (.inl ⟨a, b, z, g, hw.trans he, rfl, rfl, rfl⟩)
     ·refine l_as ?_
      refine e_nil ?_
      try refine e_fl ?_
      exact e_returnx (fB l g z) ([]) rfl (.tmp (kn rfl) (.nil)) (Imp.refl _) ⟨s_b, s_b, trivial⟩ trivial (.inr ⟨g, z, hw.trans ho, rfl, rfl, rfl⟩)
    ·have h2 : tkIs l p 1 [107, 101, 121] = false := by
      rw [h, Bool.true_and] at hc
      exact hc
     have hw : sOption l f p = .error (p, 9) := by rw [sOption_eq, hnp, if_neg (by decide), h2]; rfl
     rw [h2]
     try refine e_fl ?_
     refine e_list ?_
     refine l_mv ?_
     refine e_calli rfl rfl rfl rfl (by kernel_rfl) (misfit_g E8 E9 l hl.toTksOk p (by omega)) ⟨rfl, trivial⟩ trivial ⟨(kn rfl), trivial⟩ (fun _ _ _ h => PY.tidy h.1 h.2.1 h.2.2) ?_
     rintro _ _ _ ⟨rfl, rfl, rfl⟩
     refine l_as ?_
     refine e_nil ?_
     try refine e_fl ?_
     exact e_returnx (fB l f p) ([]) rfl (.tmp (kn rfl) (.nil)) (Imp.refl _) ⟨s_b, s_b, trivial⟩ trivial (.inl ⟨p, 9, p, f, hw, rfl, rfl, rfl⟩)
   ·have hw : sOption l f p = .error (p, 9) := by rw [sOption_eq, hnp, if_neg (by decide), h, Bool.and_false]; rfl
    refine l_op (s_and (b := false) rfl (kn rfl) (fun hb => absurd (hb.symm.trans h) (by decide))) ?_
    refine l_as ?_
    refine e_nil ?_
    try refine e_fl ?_
    refine e_cond rfl (fun hc => ?_) (fun hc => ?_)
    ·rw [Bool.and_false] at hc
     cases hc
    try refine e_fl ?_
    refine e_list ?_
    refine l_mv ?_
    refine e_calli rfl rfl rfl rfl (by kernel_rfl) (misfit_g E8 E9 l hl.toTksOk p (by omega)) ⟨rfl, trivial⟩ trivial ⟨(kn rfl), trivial⟩ (fun _ _ _ h => PY.tidy h.1 h.2.1 h.2.2) ?_
    rintro _ _ _ ⟨rfl, rfl, rfl⟩
    refine l_as ?_
    refine e_nil ?_
    try refine e_fl ?_
    exact e_returnx (fB l f p) ([]) rfl (.tmp (kn rfl) (.nil)) (Imp.refl _) ⟨s_b, s_b, trivial⟩ trivial (.inl ⟨p, 9, p, f, hw, rfl, rfl, rfl⟩)
 ·have hnp : (tkIs l p 1 [112, 97, 99, 107, 101, 100] && decide (f.packed = 0)) = false := by rw [h, Bool.and_false]
  refine l_op (s_and (b := false) rfl (kn rfl) (fun hb => absurd (hb.symm.trans h) (by decide))) ?_
  refine l_as ?_
  refine e_nil ?_
  try refine e_fl ?_
  refine e_cond rfl (fun hc => ?_) (fun hc => ?_)
  ·rw [Bool.and_false] at hc
   cases hc
  try refine e_fl ?_
  refine e_list ?_
  refine l_mv ?_
  refine l_op (s_nil_box rfl (kn rfl)) ?_
  refine l_op (s_faddr_box rfl (kn rfl) off_110_3) ?_
  refine l_op (s_load1_box rfl (kn rfl) rfl rfl one_9) ?_
  refine l_op (s_bin rfl (kn rfl) (kn rfl) (v_seql (b := []))) ?_
  refine l_mv ?_
  refine e_list_gd rfl rfl rfl (fun h => s_move rfl (kn rfl)) ?_
  refine e_list_gd rfl rfl rfl (fun h => s_buildSlice (ds := [_]) [(0, _)] rfl ⟨rfl, (kn rfl), trivial⟩ rfl sl_45 sz_9 zr_9 (fun w D => .cons (.cell _) (.nil _ _)) rfl rfl rfl rfl rfl) ?_
  refine e_guard rfl rfl rfl (fun h => ?_) (fun h => ?_)
  ·refine e_calli rfl rfl rfl rfl (by kernel_rfl) (take1 _ l hl [107, 101, 121] 1 rfl (by decide) p (by omega)) ⟨rfl, trivial⟩ trivial ⟨(kn_opt rfl h), ⟨(kn_opt rfl h), trivial⟩⟩ (fun _ _ _ h => PY.tidy h.1 h.2.1 h.2.2) ?_
   rintro _ _ _ ⟨rfl, rfl, rfl⟩
   refine l_op (s_and rfl (kn rfl) (fun _ => kn rfl)) ?_
   refine l_as ?_
   refine e_nil ?_
   try refine e_fl ?_
   refine e_cond rfl (fun hc => ?_) (fun hc => ?_)
   ·have h2 : tkIs l p 1 [107, 101, 121] = true := (Bool.and_eq_true _ _ ▸ hc).2
    have hlt := tkIs_lt h2
    have hw : sOption l f p = sKey l f (p + 1) := by rw [sOption_eq, hnp, if_neg (by decide), h2, h]; rfl
    rw [h2]
    try refine e_fl ?_
    refine e_list ?_
    refine l_mv ?_
    refine l_mv ?_
    refine e_calli rfl rfl rfl rfl (by kernel_rfl) (key_g E8 E9 l hl f (p + 1) (by omega)) ⟨rfl, rfl, trivial⟩ trivial ⟨(kn rfl), ⟨(kn rfl), trivial⟩⟩ (FE.tidy) ?_
    rintro _ _ _ (⟨a, b, z, g, he, rfl, rfl, rfl⟩ | ⟨g, z, ho, rfl, rfl, rfl⟩)
    ·refine l_as ?_
     refine e_nil ?_
     try refine e_fl ?_
     exact e_returnx (fB l g z) ([]) rfl (.tmp (kn rfl) (.nil)) (Imp.refl _) ⟨s_b, s_b, trivial⟩ trivial (.inl ⟨a, b, z, g, hw.trans he, rfl, rfl, rfl⟩)
    ·refine l_as ?_
     refine e_nil ?_
     try refine e_fl ?_
     exact e_returnx (fB l g z) ([]) rfl (.tmp (kn rfl) (.nil)) (Imp.refl _) ⟨s_b, s_b, trivial⟩ trivial (.inr ⟨g, z, hw.trans ho, rfl, rfl, rfl⟩)
   ·have h2 : tkIs l p 1 [107, 101, 121] = false := by
     rw [h, Bool.true_and] at hc
     exact hc
    have hw : sOption l f p = .error (p, 9) := by rw [sOption_eq, hnp, if_neg (by decide), h2]; rfl
    rw [h2]
    try refine e_fl ?_
    refine e_list ?_
    refine l_mv ?_
    refine e_calli rfl rfl rfl rfl (by kernel_rfl) (misfit_g E8 E9 l hl.toTksOk p (by omega)) ⟨rfl, trivial⟩ trivial ⟨(kn rfl), trivial⟩ (fun _ _ _ h => PY.tidy h.1 h.2.1 h.2.2) ?_
    rintro _ _ _ ⟨rfl, rfl, rfl⟩
    refine l_as ?_
    refine e_nil ?_
    try refine e_fl ?_
    exact e_returnx (fB l f p) ([]) rfl (.tmp (kn rfl) (.nil)) (Imp.refl _) ⟨s_b, s_b, trivial⟩ trivial (.inl ⟨p, 9, p, f, hw, rfl, rfl, rfl⟩)
  ·have hw : sOption l f p = .error (p, 9) := by rw [sOption_eq, hnp, if_neg (by decide), h, Bool.and_false]; rfl
   refine l_op (s_and (b := false) rfl (kn rfl) (fun hb => absurd (hb.symm.trans h) (by decide))) ?_
   refine l_as ?_
   refine e_nil ?_
   try refine e_fl ?_
   refine e_cond rfl (fun hc => ?_) (fun hc => ?_)
   ·rw [Bool.and_false] at hc
    cases hc
   try refine e_fl ?_
   refine e_list ?_
   refine l_mv ?_
   refine e_calli rfl rfl rfl rfl (by kernel_rfl) (misfit_g E8 E9 l hl.toTksOk p (by omega)) ⟨rfl, trivial⟩ trivial ⟨(kn rfl), trivial⟩ (fun _ _ _ h => PY.tidy h.1 h.2.1 h.2.2) ?_
   rintro _ _ _ ⟨rfl, rfl, rfl⟩
   refine l_as ?_
   refine e_nil ?_
   try refine e_fl ?_
   exact e_returnx (fB l f p) ([]) rfl (.tmp (kn rfl) (.nil)) (Imp.refl _) ⟨s_b, s_b, trivial⟩ trivial (.inl ⟨p, 9, p, f, hw, rfl, rfl, rfl⟩)
abbrev ptX : Bx := ⟨128, [.box 1 0]⟩
abbrev fB4 (l : List Tk) (f : Fld) (q : Nat) : BL := [(4, ptX), (1, pX l q), (2, fX f)]
abbrev FE4 (l : List Tk) (E8 E9 : Er) (r : Ans8 (Fld × Nat)) (y : IV) (B1 : BL) (R1 : RL) : Prop := ME l E8 E9 (fB4 l) (fun _ => []) r y B1 R1
theorem FE4.tidy {l : List Tk} {E8 E9 : Er} {r : Ans8 (Fld × Nat)} {f : Fld} {q : Nat} (y : IV) (B1 : BL) (R1 : RL) (h : FE4 l E8 E9 r y B1 R1) : Tidy (fB4 l f q) [] y B1 R1 := by
 rcases h with ⟨a, b, z, x, _, rfl, rfl, rfl⟩ | ⟨x, z, _, rfl, rfl, rfl⟩ <;> exact ⟨rfl, rfl, rfl, rfl⟩
set_option maxRecDepth 100000 in
theorem named1_g (E8 E9 : Er) (l : List Tk) (hl : PTk l) (f : Fld) (p : Nat) (hp : p ≤ 100000) : EG Tryz.prog (gE E8 E9) 122 [.box 4 0, .box 2 0] (fB4 l f p) [] (FE4 l E8 E9 (sOption l f p)) := by
 refine eg_enter 5 Tryz.func122 rfl rfl rfl fun w D bor mb => ?_
 try refine e_fl ?_
 refine e_plain (w_as rfl rfl rfl rfl rfl .nil) ?_
 try refine e_fl ?_
 refine e_list ?_
 refine l_op (s_load1_box rfl (kn rfl) rfl rfl one_128) ?_
 refine e_calli rfl rfl rfl rfl (by kernel_rfl) (option_g E8 E9 l hl f p hp) ⟨rfl, rfl, trivial⟩ trivial ⟨(kn rfl), ⟨(kn rfl), trivial⟩⟩ (FE.tidy) ?_
 rintro _ _ _ (⟨a, b, z, g, he, rfl, rfl, rfl⟩ | ⟨g, z, ho, rfl, rfl, rfl⟩)
 ·refine l_as ?_
  refine e_nil ?_
  try refine e_fl ?_
  exact e_returnx (fB4 l g z) ([]) rfl (.tmp (kn rfl) (.nil)) (Imp.refl _) ⟨s_b, s_b, s_b, trivial⟩ trivial (.inl ⟨a, b, z, g, he, rfl, rfl, rfl⟩)
 ·refine l_as ?_
  refine e_nil ?_
  try refine e_fl ?_
  exact e_returnx (fB4 l g z) ([]) rfl (.tmp (kn rfl) (.nil)) (Imp.refl _) ⟨s_b, s_b, s_b, trivial⟩ trivial (.inr ⟨g, z, ho, rfl, rfl, rfl⟩)
def sRow (l : List Tk) : Nat → Fld → Nat → Ans8 (Fld × Nat)
 | 0, _, p => form8 p
 | n + 1, f, p =>
  match sOption l f p with
  | .error e => .error e
  | .ok (g, q) =>
   if tkIs l q 4 [44] then sRow l n g (q + 1)
   else
    match sWant l 4 [93] q with
    | .error e => .error e
    | .ok r => .ok (g, r)
theorem sOpts_row (l : List Tk) : ∀ (n : Nat) (f : Fld) (p : Nat), 1 ≤ n → sOpts l n f p = (match sRow l n f (p + 1) with | .error e => .error e | .ok (g, r) => match sWant l 4 [59] r with | .error e => .error e | .ok s => .ok (g, s)) ∨ n + p < l.length + 1
 | 0, _, _, h => by omega
 | n + 1, f, p, _ => by
  rw [sOpts, sRow]
  cases h1 : sOption l f (p + 1) with
  | error e => exact .inl rfl
  | ok x =>
   obtain ⟨g, q⟩ := x
   have h2 := sOption_ok h1
   dsimp only
   split
   ·rename_i h3
    have h4 := tkIs_lt h3
    rcases Nat.eq_zero_or_pos n with h0 | h0
    ·right
     omega
    ·rcases sOpts_row l n g q h0 with h5 | h5
     ·exact .inl h5
     ·right
      omega
   ·left
    cases sWant l 4 [93] q <;> rfl
end Go.Proofs.YtekeanikgcpijaaGreatDoor
namespace Go.Proofs.YtekeanikgcpijaaGreatDoor
open Go.RowKit
def Msg.name : Msg → List UInt8
 | .mk x _ _ _ _ _ _ _ _ => x
def Msg.fields : Msg → List Fld
 | .mk _ x _ _ _ _ _ _ _ => x
def Msg.msgs : Msg → List Msg
 | .mk _ _ _ x _ _ _ _ _ => x
def Msg.enums : Msg → List Enm
 | .mk _ _ _ _ x _ _ _ _ => x
def Msg.reserved : Msg → List (Int × Int)
 | .mk _ _ _ _ _ x _ _ _ => x
def Msg.names : Msg → List (List UInt8)
 | .mk _ _ _ _ _ _ x _ _ => x
def Msg.line : Msg → Int
 | .mk _ _ _ _ _ _ _ x _ => x
def Msg.col : Msg → Int
 | .mk _ _ _ _ _ _ _ _ x => x
def md (m : Msg) : List Dat := [.cell (.string (str m.name)), .row 10 m.fields.length (m.fields.flatMap Fld.dats), .row 1 m.oneofs.length (m.oneofs.flatMap textDats), .row 9 m.msgs.length (m.msgs.flatMap Msg.dats), .row 4 m.enums.length (m.enums.flatMap Enm.dats), .row 2 m.reserved.length (m.reserved.flatMap rangeDats), .row 1 m.names.length (m.names.flatMap textDats), .cell (.int .i64 m.line), .cell (.int .i64 m.col)]
theorem dats_md (m : Msg) : m.dats = md m := by
 cases m
 exact Msg.dats_mk _ _ _ _ _ _ _ _ _
def Small (m : Msg) (z : Nat) : Prop := m.fields.length ≤ z ∧ m.oneofs.length ≤ z ∧ m.msgs.length ≤ z ∧ m.enums.length ≤ z ∧ m.reserved.length ≤ z ∧ m.names.length ≤ z
theorem Small.mono {m : Msg} {y z : Nat} (h : Small m y) (hz : y ≤ z) : Small m z := ⟨Nat.le_trans h.1 hz, Nat.le_trans h.2.1 hz, Nat.le_trans h.2.2.1 hz, Nat.le_trans h.2.2.2.1 hz, Nat.le_trans h.2.2.2.2.1 hz, Nat.le_trans h.2.2.2.2.2 hz⟩
def MLoop (R : Ans8 (Msg × Nat)) (l : List Tk) (d n : Nat) (m : Msg) (q a b : Nat) : Prop :=
 (b = 0 ∧ a = 0 ∧ 1 ≤ n ∧ l.length + 1 ≤ n + q ∧ q ≤ l.length ∧ Small m (200000 * q) ∧ R = sBody l (sMessage l d) n m q) ∨ (b ≠ 0 ∧ R = .error (a, b))
theorem MLoop.next {R : Ans8 (Msg × Nat)} {l : List Tk} {d k : Nat} {m m' : Msg} {q r a b : Nat} (hw : R = sBody l (sMessage l d) (k + 1) m q) (hc : tkIs l (semis l q) 4 [125] = false) (hn : l.length + 1 ≤ k + 1 + q) (hq : q ≤ l.length) (hr : Res (sPart l (sMessage l d) m (semis l q)) (m', r) a b) (hsm : Small m' (200000 * (q + 1))) : MLoop R l d k m' r a b := by
 have h5 := semis_le hq
 rcases hr with ⟨h1, h2, h3⟩ | ⟨h1, h3⟩
 ·have h4 := sPart_ok (sMessage_ok l d) h3
  refine .inl ⟨h1, h2, by omega, by omega, by omega, hsm.mono (by omega), ?_⟩
  simp only [hw, sBody, hc, h3]
  rfl
 ·refine .inr ⟨h1, ?_⟩
  simp only [hw, sBody, hc, h3]
  rfl
abbrev mR (m : Msg) : RL := [(100, ⟨111, 10, m.fields.length, m.fields.flatMap Fld.dats, false⟩), (101, ⟨9, 1, m.oneofs.length, m.oneofs.flatMap textDats, false⟩), (102, ⟨78, 9, m.msgs.length, m.msgs.flatMap Msg.dats, false⟩), (103, ⟨85, 4, m.enums.length, m.enums.flatMap Enm.dats, false⟩), (104, ⟨114, 2, m.reserved.length, m.reserved.flatMap rangeDats, false⟩), (105, ⟨9, 1, m.names.length, m.names.flatMap textDats, false⟩)]
end Go.Proofs.YtekeanikgcpijaaGreatDoor
namespace Go.Proofs.YtekeanikgcpijaaGreatDoor
open Go.RowKit
theorem sRow_ok {l : List Tk} : ∀ (n : Nat) (f : Fld) (p : Nat) {g : Fld} {q : Nat}, sRow l n f p = .ok (g, q) → p < q ∧ q ≤ l.length
 | 0, f, p, g, q, h => by cases h
 | n + 1, f, p, g, q, h => by
  unfold sRow at h
  split at h
  ·cases h
  rename_i x r hx
  have h1 := sOption_ok hx
  split at h
  ·have := sRow_ok n _ _ h
   omega
  split at h
  ·cases h
  rename_i s hs
  have h2 := sWant_ok hs
  injection h with h
  injection h with h4 h5
  omega
theorem sOptions_row {l : List Tk} {f : Fld} {s : Nat} (h : tkIs l s 4 [91] = true) : sOptions l f s = (match sRow l (l.length + 1) f (s + 1) with | .error e => .error e | .ok (g, r) => match sWant l 4 [59] r with | .error e => .error e | .ok s => .ok (g, s)) := by
 unfold sOptions
 rw [if_pos h]
 rcases sOpts_row l (l.length + 1) f s (by omega) with h1 | h1
 ·exact h1
 ·omega
theorem sOptions_none {l : List Tk} {f : Fld} {s : Nat} (h : tkIs l s 4 [91] = false) : sOptions l f s = (match sWant l 4 [59] s with | .error e => .error e | .ok s => .ok (f, s)) := by
 unfold sOptions
 rw [h]
 rfl
abbrev cloN : IV := .clo (.func 122) [] [.box 4 0, .box 2 0]
set_option maxRecDepth 100000 in
set_option maxHeartbeats 1000000 in
theorem rowOpt_g (E8 E9 : Er) (l : List Tk) (hl : PTk l) (f0 : Fld) (p : Nat) (hp : p ≤ 100000) : EG Tryz.prog (gE E8 E9) 113 [.box 1 0, .part (sP [93]), cloN] (fB4 l f0 p) [] (FE4 l E8 E9 (sRow l (l.length + 1) f0 p)) := by
 refine eg_enter 21 Tryz.func113 rfl rfl rfl fun w D bor mb => ?_
 try refine e_fl ?_
 have hll := hl.len
 obtain ⟨rr, hrr⟩ : ∃ rr, rr = sRow l (l.length + 1) f0 p := ⟨_, rfl⟩
 rw [← hrr]
 refine e_plain (w_as rfl rfl rfl rfl rfl .nil) ?_
 try refine e_fl ?_
 refine e_loop (ι := { i : Nat × Fld × Nat // 1 ≤ i.1 ∧ l.length + 1 ≤ i.1 + i.2.2 ∧ i.2.2 ≤ 100000 ∧ rr = sRow l i.1 i.2.1 i.2.2 })
  (fun _ => [(0, .box 1 0), (1, .part (sP [93])), (2, cloN)])
  (fun i => fB4 l i.1.2.1 i.1.2.2) (fun _ => [])
  (fun i => i.1.1) ⟨(l.length + 1, f0, p), by omega, by dsimp only; omega, hp, hrr⟩
  (fun K => e_sub ⟨s_t, s_t, s_t, trivial⟩ ⟨s_b, s_b, s_b, trivial⟩ trivial) ?_
 rintro ⟨⟨n, f, q⟩, hn1, hn, hq, hw⟩
 dsimp only at hn1 hn hq hw ⊢
 obtain ⟨m, rfl⟩ : ∃ m, n = m + 1 := ⟨n - 1, by omega⟩
 rw [sRow] at hw
 try refine e_fl ?_
 refine e_list ?_
 refine l_mv ?_
 refine e_callci (zs := []) rfl rfl rfl rfl (by kernel_rfl) (named1_g E8 E9 l hl f q hq) ⟨rfl, rfl, rfl, trivial⟩ trivial (kn rfl) trivial rfl (FE4.tidy) ?_
 rintro _ _ _ (⟨a, b, z, g, he, rfl, rfl, rfl⟩ | ⟨g, r, ho, rfl, rfl, rfl⟩)
 ·refine l_as ?_
  refine e_nil ?_
  try refine e_fl ?_
  refine e_plain (w_mv rfl rfl rfl rfl rfl (w_op rfl rfl rfl (s_err_neq rfl (kn rfl) rfl ifc_28) .nil)) ?_
  try refine e_fl ?_
  refine c_yes ?_
  try refine e_fl ?_
  refine e_plain (w_mv rfl rfl rfl rfl rfl (w_as rfl rfl rfl rfl rfl .nil)) ?_
  try refine e_fl ?_
  exact e_returnx (fB4 l g z) ([]) rfl (.tmp (kn rfl) (.nil)) (Imp.refl _) ⟨s_b, s_b, s_b, trivial⟩ trivial (.inl ⟨a, b, z, g, by rw [hw, he], rfl, rfl, rfl⟩)
 have ho1 := sOption_ok ho
 rw [ho] at hw
 dsimp only at hw
 refine l_as ?_
 refine e_nil ?_
 try refine e_fl ?_
 refine e_plain (w_mv rfl rfl rfl rfl rfl (w_op rfl rfl rfl (s_nil_neq rfl (kn rfl) ifc_28) .nil)) ?_
 try refine e_fl ?_
 refine c_no ?_
 try refine e_fl ?_
 refine e_list ?_
 refine l_mv ?_
 refine l_op (s_buildSlice (ds := [_]) [(0, _)] rfl ⟨rfl, (kn rfl), trivial⟩ rfl sl_45 sz_9 zr_9 (fun w D => .cons (.cell _) (.nil _ _)) rfl rfl rfl rfl rfl) ?_
 refine e_calli rfl rfl rfl rfl (by kernel_rfl) (take1 _ l hl [44] 4 rfl (by decide) r (by omega)) ⟨rfl, trivial⟩ trivial ⟨(kn rfl), ⟨(kn rfl), trivial⟩⟩ (fun _ _ _ h => PY.tidy h.1 h.2.1 h.2.2) ?_
 rintro _ _ _ ⟨rfl, rfl, rfl⟩
 refine l_op (s_not rfl (kn rfl)) ?_
 refine e_nil ?_
 try refine e_fl ?_
 refine e_cond rfl (fun h => ?_) (fun h => ?_)
 ·have h1 := not_t h
  rw [if_neg (by rw [h1]; decide)] at hw
  rw [h1]
  try refine e_fl ?_
  refine e_list ?_
  refine l_mv ?_
  refine l_mv ?_
  refine l_op (s_buildSlice (ds := [_]) [(0, _)] rfl ⟨rfl, (kn rfl), trivial⟩ rfl sl_45 sz_9 zr_9 (fun w D => .cons (.cell _) (.nil _ _)) rfl rfl rfl rfl rfl) ?_
  refine e_calli rfl rfl rfl rfl (by kernel_rfl) (want1_g E8 E9 l hl 4 [93] rfl (by decide) r (by omega)) ⟨rfl, trivial⟩ trivial ⟨(kn rfl), ⟨(kn rfl), trivial⟩⟩ (PE.tidy) ?_
  rintro _ _ _ (⟨a, b, z, he, rfl, rfl, rfl⟩ | ⟨z, hz, rfl, rfl, rfl⟩)
  ·refine l_as ?_
   refine e_nil ?_
   try refine e_fl ?_
   exact e_returnx (fB4 l g z) ([]) rfl (.tmp (kn rfl) (.nil)) (Imp.refl _) ⟨s_b, s_b, s_b, trivial⟩ trivial (.inl ⟨a, b, z, g, by rw [hw, he], rfl, rfl, rfl⟩)
  ·refine l_as ?_
   refine e_nil ?_
   try refine e_fl ?_
   exact e_returnx (fB4 l g z) ([]) rfl (.tmp (kn rfl) (.nil)) (Imp.refl _) ⟨s_b, s_b, s_b, trivial⟩ trivial (.inr ⟨g, z, by rw [hw, hz], rfl, rfl, rfl⟩)
 have h1 := not_f h
 have hlt := tkIs_lt h1
 rw [if_pos h1] at hw
 rw [h1]
 try refine e_fl ?_
 refine e_again ⟨(m, g, r + 1), by omega, by dsimp only; omega, by dsimp only; omega, hw⟩ (by dsimp only; omega) (fun K => e_sub ⟨s_t, s_t, s_t, trivial⟩ ⟨s_b, s_b, s_b, trivial⟩ trivial)
abbrev pmX (m : Msg) : Bx := ⟨62, [.is (.string (str m.name)), .own 100, .own 101, .own 102, .own 103, .own 104, .own 105, .is (.int .i64 m.line), .is (.int .i64 m.col)]⟩
abbrev pmR (m : Msg) : RL := [(100, ⟨110, 10, m.fields.length, m.fields.flatMap Fld.dats, false⟩), (101, ⟨9, 1, m.oneofs.length, m.oneofs.flatMap textDats, false⟩), (102, ⟨62, 9, m.msgs.length, m.msgs.flatMap Msg.dats, false⟩), (103, ⟨82, 4, m.enums.length, m.enums.flatMap Enm.dats, false⟩), (104, ⟨113, 2, m.reserved.length, m.reserved.flatMap rangeDats, false⟩), (105, ⟨9, 1, m.names.length, m.names.flatMap textDats, false⟩)]
abbrev mS (l : List Tk) (m : Msg) (q : Nat) : BL := [(1, pX l q), (3, pmX m)]
abbrev NE (l : List Tk) (E8 E9 : Er) (r : Ans8 (Msg × Nat)) (y : IV) (B1 : BL) (R1 : RL) : Prop := ME l E8 E9 (mS l) pmR r y B1 R1
theorem NE.tidy {l : List Tk} {E8 E9 : Er} {r : Ans8 (Msg × Nat)} {m : Msg} {q : Nat} (y : IV) (B1 : BL) (R1 : RL) (h : NE l E8 E9 r y B1 R1) : Tidy (mS l m q) (pmR m) y B1 R1 := by
 rcases h with ⟨a, b, z, x, _, rfl, rfl, rfl⟩ | ⟨x, z, _, rfl, rfl, rfl⟩ <;> exact ⟨rfl, rfl, rfl, rfl⟩
def withFld (m : Msg) (r : Ans8 (Fld × Nat)) : Ans8 (Msg × Nat) :=
 match r with
 | .error e => .error e
 | .ok (g, q) => .ok (m.addField g, q)
set_option maxRecDepth 100000 in
set_option maxHeartbeats 4000000 in
theorem named_g (E8 E9 : Er) (l : List Tk) (hl : PTk l) (m : Msg) (hm : m.fields.length ≤ 100000000000) (f : Fld) (p : Nat) (hp : p ≤ 100000) : EG Tryz.prog (gE E8 E9) 119 [.box 1 0, .box 3 0, .part (.many f.dats)] (mS l m p) (pmR m) (NE l E8 E9 (withFld m (sRest l f p))) := by
 obtain ⟨nm, fs, os, ms, es, rs, ns, ln, cl⟩ := m
 have hm1 : fs.length ≤ 100000000000 := hm
 refine eg_enter 72 Tryz.func119 rfl rfl rfl fun w D bor mb => ?_
 try refine e_fl ?_
 have hll := hl.len
 refine e_list ?_
 refine e_boxi 4 rfl rfl rfl rfl (kn rfl) rfl rfl rfl rfl rfl ?_
 refine e_box 2 rfl rfl rfl rfl (kn rfl) rfl rfl rfl rfl ?_
 refine l_as ?_
 refine e_nil ?_
 try refine e_fl ?_
 refine e_list ?_
 refine l_op (s_load1_box rfl (kn rfl) rfl rfl one_128) ?_
 refine e_calli rfl rfl rfl rfl (by kernel_rfl) (token_g E8 E9 l hl.toTksOk (p) 1 (by omega)) ⟨rfl, trivial⟩ trivial ⟨(kn rfl), ⟨(kn rfl), trivial⟩⟩ (TY.tidy) ?_
 rintro _ _ _ (⟨hk, rfl, rfl, rfl⟩ | ⟨hk, rfl, rfl, rfl⟩)
 ·refine l_mv ?_
  refine l_ex ?_
  refine l_ex ?_
  refine e_alloc 7 [.is (.int .i64 0), .is (.string ⟨#[]⟩), .is (.int .i64 0), .is (.int .i64 0), .is (.int .i64 0)] rfl rfl rfl rfl zr_100 (fun w D M V => ⟨rfl, fun j x v h1 h2 => cfit_is _ h1 h2 rfl⟩) rfl rfl rfl rfl ?_
  refine e_storew rfl rfl rfl (kn rfl) rfl (kn rfl) rfl rfl sz_100 ?_
  refine l_as ?_
  refine e_nil ?_
  try refine e_fl ?_
  refine e_plain (w_mv rfl rfl rfl rfl rfl (w_op rfl rfl rfl (s_err_neq rfl (kn rfl) rfl ifc_28) .nil)) ?_
  try refine e_fl ?_
  refine c_yes ?_
  try refine e_fl ?_
  refine e_plain (w_mv rfl rfl rfl rfl rfl (w_as rfl rfl rfl rfl rfl .nil)) ?_
  try refine e_fl ?_
  exact e_returnx (mS l (.mk nm fs os ms es rs ns ln cl) p) (pmR (.mk nm fs os ms es rs ns ln cl)) rfl (.tmp (kn rfl) (.nil)) (Imp.refl _) ⟨s_b, s_b, trivial⟩ ⟨rfl, rfl, rfl, rfl, rfl, rfl, trivial⟩ (.inl ⟨p, 9, p, _, by simp only [withFld, sRest, name_not hk], rfl, rfl, rfl⟩)
 refine l_mv ?_
 refine l_ex ?_
 refine l_ex ?_
 refine e_alloc 7 [.is (.int .i64 0), .is (.string ⟨#[]⟩), .is (.int .i64 0), .is (.int .i64 0), .is (.int .i64 0)] rfl rfl rfl rfl zr_100 (fun w D M V => ⟨rfl, fun j x v h1 h2 => cfit_is _ h1 h2 rfl⟩) rfl rfl rfl rfl ?_
 refine e_storew rfl rfl rfl (kn rfl) rfl (kn rfl) rfl rfl sz_100 ?_
 refine l_as ?_
 refine e_nil ?_
 try refine e_fl ?_
 refine e_plain (w_mv rfl rfl rfl rfl rfl (w_op rfl rfl rfl (s_nil_neq rfl (kn rfl) ifc_28) .nil)) ?_
 try refine e_fl ?_
 refine c_no ?_
 try refine e_fl ?_
 obtain ⟨hlt0, hx⟩ := name_is hk
 refine e_draw_mix [(2, [some _, none, none, none, none, none, none, none, some _, some _])] mixed (by kernel_rfl) (WalkM.op rfl rfl rfl (s_faddr_box rfl (kn rfl) off_100_1) (WalkM.op rfl rfl rfl (s_load1_box rfl (kn rfl) rfl rfl one_9) (WalkM.op rfl rfl rfl (s_faddr_box rfl (kn rfl) off_100_3) (WalkM.op rfl rfl rfl (s_load1_box rfl (kn rfl) rfl rfl one_3) (WalkM.op rfl rfl rfl (s_faddr_box rfl (kn rfl) off_100_4) (WalkM.op rfl rfl rfl (s_load1_box rfl (kn rfl) rfl rfl one_3) (WalkM.op rfl rfl rfl (s_faddr_box rfl (kn rfl) off_110_0) (WalkM.st1 rfl rfl rfl (kn rfl) rfl rfl (kn rfl) rfl rfl rfl sz_9 (WalkM.op rfl rfl rfl (s_faddr_box rfl (kn rfl) off_110_8) (WalkM.st1 rfl rfl rfl (kn rfl) rfl rfl (kn rfl) rfl rfl rfl sz_3 (WalkM.op rfl rfl rfl (s_faddr_box rfl (kn rfl) off_110_9) (WalkM.st1 rfl rfl rfl (kn rfl) rfl rfl (kn rfl) rfl rfl rfl sz_3 (WalkM.nil))))))))))))) rfl ?_
 try refine e_fl ?_
 refine e_list ?_
 refine l_op (s_load1_box rfl (kn rfl) rfl rfl one_128) ?_
 refine l_op (s_buildSlice (ds := [_]) [(0, _)] rfl ⟨rfl, (kn rfl), trivial⟩ rfl sl_45 sz_9 zr_9 (fun w D => .cons (.cell _) (.nil _ _)) rfl rfl rfl rfl rfl) ?_
 refine e_calli rfl rfl rfl rfl (by kernel_rfl) (want1_g E8 E9 l hl 4 [61] rfl (by decide) (p + 1) (by omega)) ⟨rfl, trivial⟩ trivial ⟨(kn rfl), ⟨(kn rfl), trivial⟩⟩ (PE.tidy) ?_
 rintro _ _ _ (⟨a, b, z, he, rfl, rfl, rfl⟩ | ⟨q, ho, rfl, rfl, rfl⟩)
 ·refine l_as ?_
  refine e_nil ?_
  try refine e_fl ?_
  refine e_plain (w_mv rfl rfl rfl rfl rfl (w_op rfl rfl rfl (s_err_neq rfl (kn rfl) rfl ifc_28) .nil)) ?_
  try refine e_fl ?_
  refine c_yes ?_
  try refine e_fl ?_
  refine e_plain (w_mv rfl rfl rfl rfl rfl (w_as rfl rfl rfl rfl rfl .nil)) ?_
  try refine e_fl ?_
  exact e_returnx (mS l (.mk nm fs os ms es rs ns ln cl) z) (pmR (.mk nm fs os ms es rs ns ln cl)) rfl (.tmp (kn rfl) (.nil)) (Imp.refl _) ⟨s_b, s_b, trivial⟩ ⟨rfl, rfl, rfl, rfl, rfl, rfl, trivial⟩ (.inl ⟨a, b, z, _, by simp only [withFld, sRest, hx, he], rfl, rfl, rfl⟩)
 refine l_as ?_
 refine e_nil ?_
 try refine e_fl ?_
 refine e_plain (w_mv rfl rfl rfl rfl rfl (w_op rfl rfl rfl (s_nil_neq rfl (kn rfl) ifc_28) .nil)) ?_
 try refine e_fl ?_
 refine c_no ?_
 try refine e_fl ?_
 have ho1 := sWant_ok ho
 refine e_list ?_
 refine l_op (s_load1_box rfl (kn rfl) rfl rfl one_128) ?_
 refine e_calli rfl rfl rfl rfl (by kernel_rfl) (token_g E8 E9 l hl.toTksOk (q) 2 (by omega)) ⟨rfl, trivial⟩ trivial ⟨(kn rfl), ⟨(kn rfl), trivial⟩⟩ (TY.tidy) ?_
 rintro _ _ _ (⟨hk2, rfl, rfl, rfl⟩ | ⟨hk2, rfl, rfl, rfl⟩)
 ·refine l_mv ?_
  refine l_ex ?_
  refine l_ex ?_
  refine e_alloc 10 [.is (.int .i64 0), .is (.string ⟨#[]⟩), .is (.int .i64 0), .is (.int .i64 0), .is (.int .i64 0)] rfl rfl rfl rfl zr_100 (fun w D M V => ⟨rfl, fun j x v h1 h2 => cfit_is _ h1 h2 rfl⟩) rfl rfl rfl rfl ?_
  refine e_storew rfl rfl rfl (kn rfl) rfl (kn rfl) rfl rfl sz_100 ?_
  refine l_as ?_
  refine e_nil ?_
  try refine e_fl ?_
  refine e_plain (w_mv rfl rfl rfl rfl rfl (w_op rfl rfl rfl (s_err_neq rfl (kn rfl) rfl ifc_28) .nil)) ?_
  try refine e_fl ?_
  refine c_yes ?_
  try refine e_fl ?_
  refine e_plain (w_mv rfl rfl rfl rfl rfl (w_as rfl rfl rfl rfl rfl .nil)) ?_
  try refine e_fl ?_
  exact e_returnx (mS l (.mk nm fs os ms es rs ns ln cl) q) (pmR (.mk nm fs os ms es rs ns ln cl)) rfl (.tmp (kn rfl) (.nil)) (Imp.refl _) ⟨s_b, s_b, trivial⟩ ⟨rfl, rfl, rfl, rfl, rfl, rfl, trivial⟩ (.inl ⟨q, 9, q, _, by simp only [withFld, sRest, hx, ho, number_not hk2], rfl, rfl, rfl⟩)
 refine l_mv ?_
 refine l_ex ?_
 refine l_ex ?_
 refine e_alloc 10 [.is (.int .i64 0), .is (.string ⟨#[]⟩), .is (.int .i64 0), .is (.int .i64 0), .is (.int .i64 0)] rfl rfl rfl rfl zr_100 (fun w D M V => ⟨rfl, fun j x v h1 h2 => cfit_is _ h1 h2 rfl⟩) rfl rfl rfl rfl ?_
 refine e_storew rfl rfl rfl (kn rfl) rfl (kn rfl) rfl rfl sz_100 ?_
 refine l_as ?_
 refine e_nil ?_
 try refine e_fl ?_
 refine e_plain (w_mv rfl rfl rfl rfl rfl (w_op rfl rfl rfl (s_nil_neq rfl (kn rfl) ifc_28) .nil)) ?_
 try refine e_fl ?_
 refine c_no ?_
 try refine e_fl ?_
 obtain ⟨hlt1, hn⟩ := number_is hk2
 have hw : sRest l f p = sOptions l { f with name := (tkAt l p).1.t, line := (tkAt l p).2.1, col := (tkAt l p).2.2, number := ((tkAt l q).1.n : Int) } (q + 1) := by simp only [sRest, hx, ho, hn]
 obtain ⟨f2, hf2⟩ : ∃ f2 : Fld, f2 = { f with name := (tkAt l p).1.t, line := (tkAt l p).2.1, col := (tkAt l p).2.2, number := ((tkAt l q).1.n : Int) } := ⟨_, rfl⟩
 refine e_list ?_
 refine l_op (s_faddr_box rfl (kn rfl) off_100_2) ?_
 refine l_op (s_load1_box rfl (kn rfl) rfl rfl one_3) ?_
 refine l_op (s_faddr_box rfl (kn rfl) off_110_5) ?_
 refine e_store1 rfl rfl rfl (kn rfl) rfl (kn rfl) rfl rfl sz_3 rfl ?_
 refine e_nil ?_
 try refine e_fl ?_
 refine e_cells 2 (bcs f2.dats) rfl (by rw [hf2]; exact ImpL.refl _) ?_
 rw [← hf2] at hw
 refine e_list ?_
 refine l_op (s_load1_box rfl (kn rfl) rfl rfl one_128) ?_
 refine l_op (s_buildSlice (ds := [_]) [(0, _)] rfl ⟨rfl, (kn rfl), trivial⟩ rfl sl_45 sz_9 zr_9 (fun w D => .cons (.cell _) (.nil _ _)) rfl rfl rfl rfl rfl) ?_
 refine e_calli rfl rfl rfl rfl (by kernel_rfl) (take1 _ l hl [91] 4 rfl (by decide) (q + 1) (by omega)) ⟨rfl, trivial⟩ trivial ⟨(kn rfl), ⟨(kn rfl), trivial⟩⟩ (fun _ _ _ h => PY.tidy h.1 h.2.1 h.2.2) ?_
 rintro _ _ _ ⟨rfl, rfl, rfl⟩
 refine e_nil ?_
 try refine e_fl ?_
 refine e_cond rfl (fun h => ?_) (fun h => ?_)
 ·have hlt2 := tkIs_lt h
  rw [sOptions_row h] at hw
  rw [h]
  try refine e_fl ?_
  refine e_list ?_
  refine l_op (s_load1_box rfl (kn rfl) rfl rfl one_128) ?_
  refine l_op (s_func (fs := []) (cs := [.box 4 0, .box 2 0]) rfl trivial ⟨(kn rfl), (kn rfl), trivial⟩) ?_
  refine e_calli rfl rfl rfl rfl (by kernel_rfl) (rowOpt_g E8 E9 l hl f2 (q + 1 + 1) (by omega)) ⟨rfl, rfl, rfl, trivial⟩ trivial ⟨(kn rfl), ⟨(kn rfl), ⟨(kn rfl), trivial⟩⟩⟩ (FE4.tidy) ?_
  rintro _ _ _ (⟨a, b, z, g, he, rfl, rfl, rfl⟩ | ⟨g, r, hr, rfl, rfl, rfl⟩)
  ·refine l_as ?_
   refine e_nil ?_
   try refine e_fl ?_
   refine e_plain (w_mv rfl rfl rfl rfl rfl (w_op rfl rfl rfl (s_err_neq rfl (kn rfl) rfl ifc_28) .nil)) ?_
   try refine e_fl ?_
   refine c_yes ?_
   try refine e_fl ?_
   refine e_plain (w_mv rfl rfl rfl rfl rfl (w_as rfl rfl rfl rfl rfl .nil)) ?_
   try refine e_fl ?_
   exact e_returnx (mS l (.mk nm fs os ms es rs ns ln cl) z) (pmR (.mk nm fs os ms es rs ns ln cl)) rfl (.tmp (kn rfl) (.nil)) (Imp.refl _) ⟨s_b, s_b, trivial⟩ ⟨rfl, rfl, rfl, rfl, rfl, rfl, trivial⟩ (.inl ⟨a, b, z, _, by simp only [withFld, hw, he], rfl, rfl, rfl⟩)
  have hr1 := sRow_ok _ _ _ hr
  refine l_as ?_
  refine e_nil ?_
  try refine e_fl ?_
  refine e_plain (w_mv rfl rfl rfl rfl rfl (w_op rfl rfl rfl (s_nil_neq rfl (kn rfl) ifc_28) .nil)) ?_
  try refine e_fl ?_
  refine c_no ?_
  try refine e_fl ?_
  refine e_list ?_
  refine l_op (s_load1_box rfl (kn rfl) rfl rfl one_128) ?_
  refine l_op (s_buildSlice (ds := [_]) [(0, _)] rfl ⟨rfl, (kn rfl), trivial⟩ rfl sl_45 sz_9 zr_9 (fun w D => .cons (.cell _) (.nil _ _)) rfl rfl rfl rfl rfl) ?_
  refine e_calli rfl rfl rfl rfl (by kernel_rfl) (want1_g E8 E9 l hl 4 [59] rfl (by decide) (r) (by omega)) ⟨rfl, trivial⟩ trivial ⟨(kn rfl), ⟨(kn rfl), trivial⟩⟩ (PE.tidy) ?_
  rintro _ _ _ (⟨a, b, z, he, rfl, rfl, rfl⟩ | ⟨z, hz, rfl, rfl, rfl⟩)
  ·refine l_as ?_
   refine e_nil ?_
   try refine e_fl ?_
   refine e_plain (w_mv rfl rfl rfl rfl rfl (w_op rfl rfl rfl (s_err_neq rfl (kn rfl) rfl ifc_28) .nil)) ?_
   try refine e_fl ?_
   refine c_yes ?_
   try refine e_fl ?_
   refine e_plain (w_mv rfl rfl rfl rfl rfl (w_as rfl rfl rfl rfl rfl .nil)) ?_
   try refine e_fl ?_
   exact e_returnx (mS l (.mk nm fs os ms es rs ns ln cl) z) (pmR (.mk nm fs os ms es rs ns ln cl)) rfl (.tmp (kn rfl) (.nil)) (Imp.refl _) ⟨s_b, s_b, trivial⟩ ⟨rfl, rfl, rfl, rfl, rfl, rfl, trivial⟩ (.inl ⟨a, b, z, _, by simp only [withFld, hw, hr, he], rfl, rfl, rfl⟩)
  refine l_as ?_
  refine e_nil ?_
  try refine e_fl ?_
  refine e_plain (w_mv rfl rfl rfl rfl rfl (w_op rfl rfl rfl (s_nil_neq rfl (kn rfl) ifc_28) .nil)) ?_
  try refine e_fl ?_
  refine c_no ?_
  try refine e_fl ?_
  refine e_draw_float 7 mixed (by kernel_rfl) rfl rfl rfl rfl (kn rfl) (fun _ _ _ _ h => h) (w_mv rfl rfl rfl rfl rfl (w_op rfl rfl rfl (s_nil_box rfl (kn rfl)) (w_op rfl rfl rfl (s_faddr_box rfl (kn rfl) off_62_1) (w_op rfl rfl rfl (s_load1_box rfl (kn rfl) rfl rfl one_59) (w_op rfl rfl rfl (s_loadn_box (ds := [_, _, _, _, _, _, _, _, _, _]) 10 rfl (kn rfl) rfl rfl agg_110 sz_110 rfl) (w_op rfl rfl rfl (s_buildSlice (ds := [_, _, _, _, _, _, _, _, _, _]) [(0, _)] rfl ⟨rfl, (kn rfl), trivial⟩ rfl sl_59 sz_110 zr_110 (fun w D => .cons (.cell _) (.cons (.cell _) (.cons (.cell _) (.cons (.cell _) (.cons (.cell _) (.cons (.cell _) (.cons (.cell _) (.cons (.cell _) (.cons (.cell _) (.cons (.cell _) (.nil _ _))))))))))) rfl rfl rfl rfl rfl) .nil)))))) ?_
  refine e_append rfl rfl rfl rfl (kn rfl) rfl (kn rfl) sl_59 ap_59 rfl rfl (by first | omega | (dsimp only; omega) | omega) (by first | omega | (dsimp only; omega) | omega) ?_
  refine l_op (s_nil_box rfl (kn rfl)) ?_
  refine l_op (s_faddr_box rfl (kn rfl) off_62_1) ?_
  refine e_store_own rfl rfl rfl (kn rfl) rfl (kn rfl) rfl rfl sz_59 rfl ?_
  refine e_nil ?_
  try refine e_fl ?_
  refine e_plain (w_as rfl rfl rfl rfl rfl .nil) ?_
  try refine e_fl ?_
  exact e_returnx (mS l ((Msg.mk nm fs os ms es rs ns ln cl).addField g) z) (pmR ((Msg.mk nm fs os ms es rs ns ln cl).addField g)) rfl (.tmp (kn rfl) (.nil)) (Imp.refl _) ⟨s_b, s_b, trivial⟩ ⟨rowEq rfl (by simp [Msg.addField, Msg.fields]) (by simp [Msg.addField, Msg.fields, List.flatMap_append, Fld.dats, Fld.cells]), rfl, rfl, rfl, rfl, rfl, trivial⟩ (.inr ⟨(Msg.mk nm fs os ms es rs ns ln cl).addField g, z, by simp only [withFld, hw, hr, hz], rfl, rfl, rfl⟩)
 ·rw [sOptions_none h] at hw
  rw [h]
  try refine e_fl ?_
  refine e_list ?_
  refine l_op (s_load1_box rfl (kn rfl) rfl rfl one_128) ?_
  refine l_op (s_buildSlice (ds := [_]) [(0, _)] rfl ⟨rfl, (kn rfl), trivial⟩ rfl sl_45 sz_9 zr_9 (fun w D => .cons (.cell _) (.nil _ _)) rfl rfl rfl rfl rfl) ?_
  refine e_calli rfl rfl rfl rfl (by kernel_rfl) (want1_g E8 E9 l hl 4 [59] rfl (by decide) (q + 1) (by omega)) ⟨rfl, trivial⟩ trivial ⟨(kn rfl), ⟨(kn rfl), trivial⟩⟩ (PE.tidy) ?_
  rintro _ _ _ (⟨a, b, z, he, rfl, rfl, rfl⟩ | ⟨z, hz, rfl, rfl, rfl⟩)
  ·refine l_as ?_
   refine e_nil ?_
   try refine e_fl ?_
   refine e_plain (w_mv rfl rfl rfl rfl rfl (w_op rfl rfl rfl (s_err_neq rfl (kn rfl) rfl ifc_28) .nil)) ?_
   try refine e_fl ?_
   refine c_yes ?_
   try refine e_fl ?_
   refine e_plain (w_mv rfl rfl rfl rfl rfl (w_as rfl rfl rfl rfl rfl .nil)) ?_
   try refine e_fl ?_
   exact e_returnx (mS l (.mk nm fs os ms es rs ns ln cl) z) (pmR (.mk nm fs os ms es rs ns ln cl)) rfl (.tmp (kn rfl) (.nil)) (Imp.refl _) ⟨s_b, s_b, trivial⟩ ⟨rfl, rfl, rfl, rfl, rfl, rfl, trivial⟩ (.inl ⟨a, b, z, _, by simp only [withFld, hw, hn, he], rfl, rfl, rfl⟩)
  refine l_as ?_
  refine e_nil ?_
  try refine e_fl ?_
  refine e_plain (w_mv rfl rfl rfl rfl rfl (w_op rfl rfl rfl (s_nil_neq rfl (kn rfl) ifc_28) .nil)) ?_
  try refine e_fl ?_
  refine c_no ?_
  try refine e_fl ?_
  refine e_draw_float 7 mixed (by kernel_rfl) rfl rfl rfl rfl (kn rfl) (fun _ _ _ _ h => h) (w_mv rfl rfl rfl rfl rfl (w_op rfl rfl rfl (s_nil_box rfl (kn rfl)) (w_op rfl rfl rfl (s_faddr_box rfl (kn rfl) off_62_1) (w_op rfl rfl rfl (s_load1_box rfl (kn rfl) rfl rfl one_59) (w_op rfl rfl rfl (s_loadn_box (ds := [_, _, _, _, _, _, _, _, _, _]) 10 rfl (kn rfl) rfl rfl agg_110 sz_110 rfl) (w_op rfl rfl rfl (s_buildSlice (ds := [_, _, _, _, _, _, _, _, _, _]) [(0, _)] rfl ⟨rfl, (kn rfl), trivial⟩ rfl sl_59 sz_110 zr_110 (fun w D => .cons (.cell _) (.cons (.cell _) (.cons (.cell _) (.cons (.cell _) (.cons (.cell _) (.cons (.cell _) (.cons (.cell _) (.cons (.cell _) (.cons (.cell _) (.cons (.cell _) (.nil _ _))))))))))) rfl rfl rfl rfl rfl) .nil)))))) ?_
  refine e_append rfl rfl rfl rfl (kn rfl) rfl (kn rfl) sl_59 ap_59 rfl rfl (by first | omega | (dsimp only; omega) | omega) (by first | omega | (dsimp only; omega) | omega) ?_
  refine l_op (s_nil_box rfl (kn rfl)) ?_
  refine l_op (s_faddr_box rfl (kn rfl) off_62_1) ?_
  refine e_store_own rfl rfl rfl (kn rfl) rfl (kn rfl) rfl rfl sz_59 rfl ?_
  refine e_nil ?_
  try refine e_fl ?_
  refine e_plain (w_as rfl rfl rfl rfl rfl .nil) ?_
  try refine e_fl ?_
  exact e_returnx (mS l ((Msg.mk nm fs os ms es rs ns ln cl).addField f2) z) (pmR ((Msg.mk nm fs os ms es rs ns ln cl).addField f2)) rfl (.tmp (kn rfl) (.nil)) (Imp.refl _) ⟨s_b, s_b, trivial⟩ ⟨rowEq rfl (by simp [Msg.addField, Msg.fields]) (by simp [Msg.addField, Msg.fields, List.flatMap_append, Fld.dats, Fld.cells]), rfl, rfl, rfl, rfl, rfl, trivial⟩ (.inr ⟨(Msg.mk nm fs os ms es rs ns ln cl).addField f2, z, by simp only [withFld, hw, hn, hz], rfl, rfl, rfl⟩)
end Go.Proofs.YtekeanikgcpijaaGreatDoor
