/- Part 11 of what the last text of this claim is proved by: walks over the program, and the math behind them. Conditions: as each theorem says. -/
import Derived.Test.YtfcjeciepadmeaaGreatDoorTx10
import Derived.Test.YtfcjeciepadmeaaGreatDoorProg
namespace Go.Proofs.YtfcjeciepadmeaaGreatDoor
open Go.RowKit
def kindT : List UInt8 → Nat
 | [] => 4
 | c :: _ => if 97 ≤ c.toNat ∧ c.toNat ≤ 122 then 1 else 4
def sWants (l : List Tk) : List (List UInt8) → Nat → Ans8 Nat
 | [], p => .ok p
 | t :: ts, p =>
  match sWant l (kindT t) t p with
  | .error e => .error e
  | .ok q => sWants l ts q
def wantR (l : List Tk) (ts : List (List UInt8)) (p : Nat) : IV :=
 match sWants l ts p with
 | .ok q => .tup [iP q, stP 0 0]
 | .error e => .tup [iP e.1, stP e.1 9]
theorem sWants_one (l : List Tk) (t : List UInt8) (p : Nat) : sWants l [t] p = sWant l (kindT t) t p := by
 unfold sWants
 cases sWant l (kindT t) t p <;> rfl
theorem kindT_cons (c : UInt8) (r : List UInt8) : kindT (c :: r) = if 97 ≤ c.toNat ∧ c.toNat ≤ 122 then 1 else 4 := rfl
theorem kindT_b (c : UInt8) (r : List UInt8) : (decide ((97 : Int) ≤ (c.toNat : Int)) && decide ((c.toNat : Int) ≤ 122)) = decide (kindT (c :: r) = 1) := by
 rw [kindT_cons]
 by_cases h : 97 ≤ c.toNat ∧ c.toNat ≤ 122
 ·rw [if_pos h, decide_eq_true (show (97 : Int) ≤ (c.toNat : Int) by omega), decide_eq_true (show (c.toNat : Int) ≤ 122 by omega)]
  rfl
 ·rw [if_neg h]
  by_cases h1 : 97 ≤ c.toNat
  ·rw [decide_eq_true (show (97 : Int) ≤ (c.toNat : Int) by omega), decide_eq_false (show ¬ ((c.toNat : Int) ≤ 122) by omega)]
   rfl
  ·rw [decide_eq_false (show ¬ ((97 : Int) ≤ (c.toNat : Int)) by omega)]
   rfl
theorem kindT_no {c : UInt8} {r : List UInt8} (h : decide (kindT (c :: r) = 1) = false) : kindT (c :: r) = 4 := by
 have h1 := of_decide_eq_false h
 rw [kindT_cons] at h1 ⊢
 by_cases h2 : 97 ≤ c.toNat ∧ c.toNat ≤ 122
 ·rw [if_pos h2] at h1
  exact absurd rfl h1
 ·rw [if_neg h2]
set_option maxRecDepth 100000 in
theorem want_ef (l : List Tk) (hl : l.length ≤ 100000) (ts : List (List UInt8)) (hts : ts.length ≤ 100) (hne : ∀ t ∈ ts, t ≠ []) (p : Nat) (hp : p ≤ 100001) : EF Tryz.prog [] 57 [tksP l, iP p, txsP ts] (wantR l ts p) := by
 refine ef_enter 39 Tryz.func57 rfl rfl rfl fun w D => ?_
 try refine e_fl ?_
 refine e_list ?_
 refine l_as ?_
 refine e_alloc 7 [.is (.int .i64 0), .is (.int .i64 0)] rfl rfl rfl rfl zr_102 (fun w D M V => ⟨rfl, fun j x v h1 h2 => cfit_is _ h1 h2 rfl⟩) rfl rfl rfl rfl ?_
 refine e_nil ?_
 try refine e_fl ?_
 refine e_plain (w_mv rfl rfl rfl rfl rfl (w_op rfl rfl rfl (s_len rfl (kn rfl) sle_49) (w_mv rfl rfl rfl rfl rfl .nil))) ?_
 try refine e_fl ?_
 refine e_loop (ι := { i : Nat × Nat // i.1 ≤ ts.length ∧ i.2 ≤ 100001 ∧ sWants l ts p = sWants l (ts.drop i.1) i.2 })
  (fun i => [(0, .part (tksP l)), (1, .is (.int .i64 (i.1.2 : Int))), (6, .is (.int .i64 0)), (7, .box 7 0), (11, .part (txsP ts)), (12, .is (.int .i64 (ts.length : Int))), (13, .is (.int .i64 (i.1.1 : Int)))])
  (fun _ => [(7, ⟨102, [.is (.int .i64 0), .is (.int .i64 0)]⟩)])
  (fun _ => [])
  (fun i => ts.length - i.1.1) ⟨(0, p), by simp, by simpa using hp, rfl⟩
  (fun K => e_sub ⟨s_t, s_t, s_t, s_t, s_t, s_t, s_t, trivial⟩ ⟨s_b, trivial⟩ trivial) ?_
 rintro ⟨⟨i, q⟩, hi, hq, hw⟩
 dsimp only at hi hq hw ⊢
 try refine e_fl ?_
 refine e_plain (w_op rfl rfl rfl (s_bin rfl (kn rfl) (kn rfl) v_lss) .nil) ?_
 try refine e_fl ?_
 refine e_cond rfl (fun h => ?_) (fun h => ?_)
 ·have hlt : i < ts.length := by simpa using h
  obtain ⟨t, ht⟩ : ∃ t, ts[i]? = some t := ⟨_, List.getElem?_eq_getElem hlt⟩
  have htn := hne t (List.mem_of_getElem? ht)
  obtain ⟨c, r, rfl⟩ : ∃ c r, t = c :: r := by
   cases t with
   | nil => exact absurd rfl htn
   | cons c r => exact ⟨c, r, rfl⟩
  have hd : ts.drop i = (c :: r) :: ts.drop (i + 1) := by
   rw [List.drop_eq_getElem_cons hlt]
   congr 1
   rw [List.getElem?_eq_getElem hlt] at ht
   exact Option.some.inj ht
  rw [hd, sWants] at hw
  try refine e_fl ?_
  refine e_plain (w_op rfl rfl rfl (s_index rfl (kn rfl) (kn rfl) (by omega) ht textDats_len sle_49 esz_49 rfl) (w_op rfl rfl rfl (s_load1_ref rfl (kn rfl) one_9) (w_as rfl rfl rfl rfl rfl .nil))) ?_
  try refine e_fl ?_
  refine e_plain (w_as rfl rfl rfl rfl rfl .nil) ?_
  try refine e_fl ?_
  refine e_plain (w_mv rfl rfl rfl rfl rfl (w_op rfl rfl rfl (s_sindex rfl (kn rfl) (kn rfl) (by omega) rfl str_9) (w_op rfl rfl rfl (s_bin rfl (kn rfl) (kn rfl) v_geq) (w_mv rfl rfl rfl rfl rfl (Walk.gd _ rfl rfl rfl (fun h => s_move rfl (kn rfl)) (Walk.gd _ rfl rfl rfl (fun h => s_sindex rfl (kn_opt rfl h) (kn rfl) (by omega) rfl str_9) (Walk.gd _ rfl rfl rfl (fun h => s_bin rfl (kn_opt rfl h) (kn rfl) v_leq) (w_op rfl rfl rfl (s_and rfl (kn rfl) (fun hb => kn_opt rfl hb)) .nil)))))))) ?_
  try refine e_fl ?_
  refine e_cond rfl (fun h1 => ?_) (fun h1 => ?_)
  ·rw [kindT_b] at h1
   have hk := of_decide_eq_true h1
   try refine e_fl ?_
   refine e_plain (w_as rfl rfl rfl rfl rfl .nil) ?_
   try refine e_fl ?_
   refine e_plain (w_mv rfl rfl rfl rfl rfl (w_mv rfl rfl rfl rfl rfl (w_mv rfl rfl rfl rfl rfl (w_mv rfl rfl rfl rfl rfl (w_op rfl rfl rfl (s_call rfl (by kernel_rfl) (is_ef l q 1 (c :: r)) ⟨(kn rfl), ⟨(kn rfl), ⟨(kn rfl), ⟨(kn rfl), trivial⟩⟩⟩⟩) (w_op rfl rfl rfl (s_not rfl (kn rfl)) .nil)))))) ?_
   try refine e_fl ?_
   refine e_cond rfl (fun h2 => ?_) (fun h2 => ?_)
   ·have hn : sWant l (kindT (c :: r)) (c :: r) q = .error (q, 9) := by
     unfold sWant
     rw [hk, not_t h2]
     rfl
    rw [hn] at hw
    try refine e_fl ?_
    refine e_list ?_
    refine l_mv ?_
    refine l_mv ?_
    refine l_op (s_call rfl (by kernel_rfl) (bad_ef q) ⟨(kn rfl), trivial⟩) ?_
    refine l_as ?_
    refine e_storew rfl rfl rfl (kn rfl) rfl (kn rfl) rfl rfl sz_102 ?_
    refine e_nil ?_
    try refine e_fl ?_
    exact e_return rfl rfl (.tmp (kn rfl) (.cell rfl rfl rfl agg_102 sz_102 rfl (.nil))) (Imp.of_eq (by unfold wantR; rw [hw]; rfl)) rfl
   ·have hn : sWant l (kindT (c :: r)) (c :: r) q = .ok (q + 1) := by
     unfold sWant
     rw [hk, not_f h2]
     rfl
    rw [hn] at hw
    have hq2 : q < l.length := tkIs_lt (not_f h2)
    try refine e_fl ?_
    refine e_plain (w_mv rfl rfl rfl rfl rfl (w_op rfl rfl rfl (s_bin rfl (kn rfl) (kn rfl) (v_add64 (by first | omega | (dsimp only; omega) | omega))) (w_as rfl rfl rfl rfl rfl .nil))) ?_
    try refine e_fl ?_
    refine e_plain (w_op rfl rfl rfl (s_bin rfl (kn rfl) (kn rfl) (v_add64 (by first | omega | (dsimp only; omega) | omega))) (w_mv rfl rfl rfl rfl rfl .nil)) ?_
    try refine e_fl ?_
    refine e_again ⟨(i + 1, q + 1), by omega, by omega, hw⟩ (by dsimp only; omega) (fun K => e_sub ⟨s_t, s_t, s_t, s_t, s_t, s_t, s_t, trivial⟩ ⟨s_b, trivial⟩ trivial)
  ·rw [kindT_b] at h1
   have hk := kindT_no h1
   try refine e_fl ?_
   refine e_plain (w_mv rfl rfl rfl rfl rfl (w_mv rfl rfl rfl rfl rfl (w_mv rfl rfl rfl rfl rfl (w_mv rfl rfl rfl rfl rfl (w_op rfl rfl rfl (s_call rfl (by kernel_rfl) (is_ef l q 4 (c :: r)) ⟨(kn rfl), ⟨(kn rfl), ⟨(kn rfl), ⟨(kn rfl), trivial⟩⟩⟩⟩) (w_op rfl rfl rfl (s_not rfl (kn rfl)) .nil)))))) ?_
   try refine e_fl ?_
   refine e_cond rfl (fun h2 => ?_) (fun h2 => ?_)
   ·have hn : sWant l (kindT (c :: r)) (c :: r) q = .error (q, 9) := by
     unfold sWant
     rw [hk, not_t h2]
     rfl
    rw [hn] at hw
    try refine e_fl ?_
    refine e_list ?_
    refine l_mv ?_
    refine l_mv ?_
    refine l_op (s_call rfl (by kernel_rfl) (bad_ef q) ⟨(kn rfl), trivial⟩) ?_
    refine l_as ?_
    refine e_storew rfl rfl rfl (kn rfl) rfl (kn rfl) rfl rfl sz_102 ?_
    refine e_nil ?_
    try refine e_fl ?_
    exact e_return rfl rfl (.tmp (kn rfl) (.cell rfl rfl rfl agg_102 sz_102 rfl (.nil))) (Imp.of_eq (by unfold wantR; rw [hw]; rfl)) rfl
   ·have hn : sWant l (kindT (c :: r)) (c :: r) q = .ok (q + 1) := by
     unfold sWant
     rw [hk, not_f h2]
     rfl
    rw [hn] at hw
    have hq2 : q < l.length := tkIs_lt (not_f h2)
    try refine e_fl ?_
    refine e_plain (w_mv rfl rfl rfl rfl rfl (w_op rfl rfl rfl (s_bin rfl (kn rfl) (kn rfl) (v_add64 (by first | omega | (dsimp only; omega) | omega))) (w_as rfl rfl rfl rfl rfl .nil))) ?_
    try refine e_fl ?_
    refine e_plain (w_op rfl rfl rfl (s_bin rfl (kn rfl) (kn rfl) (v_add64 (by first | omega | (dsimp only; omega) | omega))) (w_mv rfl rfl rfl rfl rfl .nil)) ?_
    try refine e_fl ?_
    refine e_again ⟨(i + 1, q + 1), by omega, by omega, hw⟩ (by dsimp only; omega) (fun K => e_sub ⟨s_t, s_t, s_t, s_t, s_t, s_t, s_t, trivial⟩ ⟨s_b, trivial⟩ trivial)
 ·have hge : i = ts.length := by
   have := of_decide_eq_false h
   omega
  subst hge
  rw [List.drop_length, sWants] at hw
  try refine e_fl ?_
  refine e_list ?_
  refine l_mv ?_
  refine l_op (s_build (ds := [_, _]) [] rfl trivial rfl pl_102 zr_102 (fun w D => .cons (.cell _) (.cons (.cell _) (.nil _ _))) rfl) ?_
  refine l_as ?_
  refine e_storew rfl rfl rfl (kn rfl) rfl (kn rfl) rfl rfl sz_102 ?_
  refine e_nil ?_
  try refine e_fl ?_
  exact e_return rfl rfl (.tmp (kn rfl) (.cell rfl rfl rfl agg_102 sz_102 rfl (.nil))) (Imp.of_eq (by unfold wantR; rw [hw]; rfl)) rfl
end Go.Proofs.YtfcjeciepadmeaaGreatDoor
namespace Go.Proofs.YtfcjeciepadmeaaGreatDoor
open Go.RowKit
def Res {β : Type} (r : Ans8 β) (v : β) (a b : Nat) : Prop := (b = 0 ∧ a = 0 ∧ r = .ok v) ∨ (b ≠ 0 ∧ r = .error (a, b))
theorem Res.bad {β : Type} {r : Ans8 β} {v : β} {a b : Nat} (hr : Res r v a b) (h : (!decide ((b : Int) = 0)) = true) : b ≠ 0 ∧ r = .error (a, b) := by
 have h1 : b ≠ 0 := by
  intro e
  subst e
  simp at h
 rcases hr with ⟨e, _⟩ | h2
 ·exact absurd e h1
 ·exact h2
theorem Res.ok {β : Type} {r : Ans8 β} {v : β} {a b : Nat} (hr : Res r v a b) (h : (!decide ((b : Int) = 0)) = false) : a = 0 ∧ b = 0 ∧ r = .ok v := by
 have h1 : b = 0 := by
  simpa using h
 rcases hr with ⟨e1, e2, e3⟩ | h2
 ·exact ⟨e2, e1, e3⟩
 ·exact absurd h1 h2.1
theorem Res.good {β : Type} {r : Ans8 β} {v : β} (h : r = .ok v) : Res r v 0 0 := .inl ⟨rfl, rfl, h⟩
theorem Res.ill {β : Type} {r : Ans8 β} {v : β} {a b : Nat} (hb : b ≠ 0) (h : r = .error (a, b)) : Res r v a b := .inr ⟨hb, h⟩
def RY {α : Type} (P : α → List Part) (r : Ans8 (α × Nat)) (y : IV) : Prop := ∃ (x : α) (q a b : Nat), y = .tup (P x ++ [iP q, stP a b]) ∧ Res r (x, q) a b
def WY (r : Ans8 Nat) (y : IV) : Prop := ∃ (q a b : Nat), y = .tup [iP q, stP a b] ∧ Res r q a b
theorem EFx.mono {P : Program} {gls : List (Nat × List Value)} {f : FuncId} {ps : List Part} {Y Z : IV → Prop} (h : EFx P gls f ps Y) (hi : ∀ y, Y y → Z y) : EFx P gls f ps Z := fun w D vs a b c => (h w D vs a b c).mono fun _ _ ⟨v, y, h1, h2, h3⟩ => ⟨v, y, h1, hi y h2, h3⟩
structure TksOk (l : List Tk) : Prop where
 len : l.length ≤ 100000
 txt : ∀ p, (tkAt l p).1.t.length ≤ 100000
 num : ∀ p, (tkAt l p).1.n ≤ 1000000000000
theorem name_y (l : List Tk) (hl : TksOk l) (p : Nat) : EFx Tryz.prog [] 90 [tksP l, iP p] (RY (fun x => [tkP x]) (sName l p)) := (name_ef l hl.len p).mono fun y e => by
 subst e
 unfold nameR
 cases h : sName l p with
 | ok x => exact ⟨x.1, x.2, 0, 0, rfl, .good rfl⟩
 | error e =>
  have : e = (p, 9) := by
   unfold sName at h
   split at h
   ·exact (Except.error.inj h).symm
   ·split at h
    ·cases h
    ·exact (Except.error.inj h).symm
  subst this
  exact ⟨tk0, p, p, 9, rfl, .ill (by decide) rfl⟩
theorem number_y (l : List Tk) (hl : TksOk l) (p : Nat) : EFx Tryz.prog [] 97 [tksP l, iP p] (RY (fun x => [iP x]) (sNumber l p)) := (number_ef l hl.len p).mono fun y e => by
 subst e
 unfold numberR
 cases h : sNumber l p with
 | ok x => exact ⟨x.1, x.2, 0, 0, rfl, .good rfl⟩
 | error e =>
  have : e = (p, 9) := by
   unfold sNumber at h
   split at h
   ·exact (Except.error.inj h).symm
   ·split at h
    ·cases h
    ·exact (Except.error.inj h).symm
  subst this
  exact ⟨0, p, p, 9, rfl, .ill (by decide) rfl⟩
theorem sWants_err {l : List Tk} : ∀ {ts : List (List UInt8)} {p : Nat} {e : Nat × Nat}, sWants l ts p = .error e → e.2 = 9
 | [], _, _, h => by cases h
 | t :: ts, p, e, h => by
  unfold sWants at h
  split at h
  ·rename_i e' h'
   unfold sWant at h'
   split at h'
   ·cases h'
   ·cases h'
    cases h
    rfl
  ·exact sWants_err h
theorem want_y (l : List Tk) (hl : TksOk l) (ts : List (List UInt8)) (hts : ts.length ≤ 100) (hne : ∀ t ∈ ts, t ≠ []) (p : Nat) (hp : p ≤ 100001) : EFx Tryz.prog [] 57 [tksP l, iP p, txsP ts] (WY (sWants l ts p)) := (want_ef l hl.len ts hts hne p hp).mono fun y e => by
 subst e
 unfold wantR
 cases h : sWants l ts p with
 | ok x => exact ⟨x, 0, 0, rfl, .good rfl⟩
 | error e =>
  have := sWants_err h
  obtain ⟨a, b⟩ := e
  dsimp only at this
  subst this
  exact ⟨a, a, 9, rfl, .ill (by decide) rfl⟩
theorem want1 (l : List Tk) (hl : TksOk l) (k : Nat) (t : List UInt8) (hk : kindT t = k) (ht : t ≠ []) (p : Nat) (hp : p ≤ 100001) : EFx Tryz.prog [] 57 [tksP l, iP p, txsP [t]] (WY (sWant l k t p)) := by
 have h := want_y l hl [t] (by simp) (by simpa using ht) p hp
 rw [sWants_one, hk] at h
 exact h
abbrev tkQ (x : Tk) : List Part := [tkP x]
abbrev sQ (t : List UInt8) : List Part := [sP t]
set_option maxRecDepth 100000 in
theorem dotted_y (l : List Tk) (hl : TksOk l) (p : Nat) (hp : p ≤ 100000) (typ : Bool) : EFx Tryz.prog [] 60 [tksP l, iP p, bP typ] (RY sQ (sDotted l typ p)) := by
 refine ef_enter 49 Tryz.func60 rfl rfl rfl fun w D => ?_
 try refine e_fl ?_
 refine e_list ?_
 refine l_as ?_
 refine l_as ?_
 refine e_alloc 8 [.is (.int .i64 0), .is (.int .i64 0)] rfl rfl rfl rfl zr_102 (fun w D M V => ⟨rfl, fun j x v h1 h2 => cfit_is _ h1 h2 rfl⟩) rfl rfl rfl rfl ?_
 refine e_nil ?_
 try refine e_fl ?_
 refine e_plain (w_as rfl rfl rfl rfl rfl .nil) ?_
 try refine e_fl ?_
 refine e_plain (w_mv rfl rfl rfl rfl rfl (w_mv rfl rfl rfl rfl rfl (Walk.gd _ rfl rfl rfl (fun h => s_move rfl (kn rfl)) (Walk.gd _ rfl rfl rfl (fun h => s_move rfl (kn rfl)) (Walk.gd _ rfl rfl rfl (fun h => s_call rfl (by kernel_rfl) (is_ef l p 4 [46]) ⟨(kn_opt rfl h), ⟨(kn_opt rfl h), ⟨(kn rfl), ⟨(kn rfl), trivial⟩⟩⟩⟩) (w_op rfl rfl rfl (s_and rfl (kn rfl) (fun hb => kn_opt rfl hb)) .nil)))))) ?_
 try refine e_fl ?_
 refine e_cond rfl (fun h => ?_) (fun h => ?_)
 ·try refine e_fl ?_
  refine e_plain (w_as rfl rfl rfl rfl rfl .nil) ?_
  try refine e_fl ?_
  refine e_plain (w_mv rfl rfl rfl rfl rfl (w_op rfl rfl rfl (s_bin rfl (kn rfl) (kn rfl) (v_add64 (by first | omega | (dsimp only; omega) | omega))) (w_as rfl rfl rfl rfl rfl .nil))) ?_
  try refine e_fl ?_
  refine e_loop (ι := { i : Nat × List UInt8 × Nat // 1 ≤ i.1 ∧ l.length + 1 ≤ i.1 + i.2.2 ∧ i.2.2 ≤ 100001 ∧ i.2.1.length ≤ 100001 * i.2.2 + 1 ∧ sDotted l typ p = sDots l i.1 i.2.1 i.2.2 })
   (fun i => [(0, .part (tksP l)), (1, .is (.int .i64 (i.1.2.2 : Int))), (7, .is (.int .i64 0)), (8, .box 8 0), (9, .is (.string (str i.1.2.1)))])
   (fun _ => [(8, ⟨102, [.is (.int .i64 0), .is (.int .i64 0)]⟩)])
   (fun _ => [])
   (fun i => i.1.1) ⟨(l.length + 1, [46], p + 1), by omega, by dsimp only; omega, by dsimp only; omega, by simp, by unfold sDotted; rw [h]; rfl⟩
   (fun K => e_sub ⟨s_t, s_t, s_t, s_t, s_t, trivial⟩ ⟨s_b, trivial⟩ trivial) ?_
  rintro ⟨⟨n, s, q⟩, hn1, hn, hq, hs, hw⟩
  dsimp only at hn1 hn hq hs hw ⊢
  obtain ⟨m, rfl⟩ : ∃ m, n = m + 1 := ⟨n - 1, by omega⟩
  rw [sDots] at hw
  try refine e_fl ?_
  refine e_list ?_
  refine l_mv ?_
  refine l_mv ?_
  refine e_list_call rfl rfl rfl rfl (by kernel_rfl) (name_y l hl q) ⟨(kn rfl), ⟨(kn rfl), trivial⟩⟩ ?_
  rintro _ ⟨x, r, a, b, rfl, hr⟩
  refine l_mv ?_
  refine l_ex ?_
  refine l_ex ?_
  refine l_ex ?_
  refine e_alloc 10 [.is (.int .i64 0), .is (.string ⟨#[]⟩), .is (.int .i64 0), .is (.int .i64 0), .is (.int .i64 0)] rfl rfl rfl rfl zr_97 (fun w D M V => ⟨rfl, fun j x v h1 h2 => cfit_is _ h1 h2 rfl⟩) rfl rfl rfl rfl ?_
  refine e_alloc 12 [.is (.int .i64 0), .is (.int .i64 0)] rfl rfl rfl rfl zr_102 (fun w D M V => ⟨rfl, fun j x v h1 h2 => cfit_is _ h1 h2 rfl⟩) rfl rfl rfl rfl ?_
  refine e_storew rfl rfl rfl (kn rfl) rfl (kn rfl) rfl rfl sz_97 ?_
  refine l_as ?_
  refine e_storew rfl rfl rfl (kn rfl) rfl (kn rfl) rfl rfl sz_102 ?_
  refine e_nil ?_
  try refine e_fl ?_
  refine e_plain (w_op rfl rfl rfl (s_faddr_box rfl (kn rfl) off_102_1) (w_op rfl rfl rfl (s_load1_box rfl (kn rfl) rfl rfl one_3) (w_op rfl rfl rfl (s_bin rfl (kn rfl) (kn rfl) v_neq) .nil))) ?_
  try refine e_fl ?_
  refine e_cond rfl (fun h => ?_) (fun h => ?_)
  ·obtain ⟨hb, he⟩ := hr.bad h
   rw [he] at hw
   try refine e_fl ?_
   refine e_draw_mix [(8, _)] mixed (by kernel_rfl) (WalkM.op rfl rfl rfl (s_move rfl (kn rfl)) (WalkM.op rfl rfl rfl (s_loadn_box (ds := [_, _]) 2 rfl (kn rfl) rfl rfl agg_102 sz_102 rfl) (WalkM.op rfl rfl rfl (s_assign rfl (kn rfl)) (WalkM.op rfl rfl rfl (s_assign rfl (kn rfl)) (WalkM.stw rfl rfl rfl (kn rfl) rfl rfl (kn rfl) rfl rfl rfl sz_102 (WalkM.nil)))))) rfl ?_
   try refine e_fl ?_
   exact e_return rfl rfl (.tmp (kn rfl) (.tmp (kn rfl) (.cell rfl rfl rfl agg_102 sz_102 rfl (.nil)))) (Imp.refl _) (⟨[], q, a, b, rfl, .ill hb hw⟩)
  obtain ⟨rfl, rfl, ho⟩ := hr.ok h
  obtain ⟨rfl, hx, hx1, _⟩ := sName_ok ho
  have hx2 := tkAt_of hx1
  have hx3 := hl.txt q
  rw [hx2] at hx3
  rw [ho] at hw
  dsimp only at hw
  have hll := hl.len
  try refine e_fl ?_
  refine e_plain (w_mv rfl rfl rfl rfl rfl (w_op rfl rfl rfl (s_faddr_box rfl (kn rfl) off_97_1) (w_op rfl rfl rfl (s_load1_box rfl (kn rfl) rfl rfl one_9) (w_op rfl rfl rfl (s_bin rfl (kn rfl) (kn rfl) (v_sadd (by first | omega | (simp only [List.length_append, List.length_cons, List.length_nil]; omega)))) (w_as rfl rfl rfl rfl rfl .nil))))) ?_
  try refine e_fl ?_
  refine e_plain (w_mv rfl rfl rfl rfl rfl (w_as rfl rfl rfl rfl rfl .nil)) ?_
  try refine e_fl ?_
  refine e_plain (w_mv rfl rfl rfl rfl rfl (w_mv rfl rfl rfl rfl rfl (w_op rfl rfl rfl (s_call rfl (by kernel_rfl) (is_ef l (q + 1) 4 [46]) ⟨(kn rfl), ⟨(kn rfl), ⟨(kn rfl), ⟨(kn rfl), trivial⟩⟩⟩⟩) (w_op rfl rfl rfl (s_not rfl (kn rfl)) .nil)))) ?_
  try refine e_fl ?_
  refine e_cond rfl (fun h => ?_) (fun h => ?_)
  ·rw [if_neg (by rw [not_t h]; decide)] at hw
   try refine e_fl ?_
   refine e_list ?_
   refine l_mv ?_
   refine l_mv ?_
   refine l_op (s_build (ds := [_, _]) [] rfl trivial rfl pl_102 zr_102 (fun w D => .cons (.cell _) (.cons (.cell _) (.nil _ _))) rfl) ?_
   refine l_as ?_
   refine l_as ?_
   refine e_storew rfl rfl rfl (kn rfl) rfl (kn rfl) rfl rfl sz_102 ?_
   refine e_nil ?_
   try refine e_fl ?_
   exact e_return rfl rfl (.tmp (kn rfl) (.tmp (kn rfl) (.cell rfl rfl rfl agg_102 sz_102 rfl (.nil)))) (Imp.refl _) (⟨s ++ x.1.t, q + 1, 0, 0, rfl, .good hw⟩)
  rw [if_pos (not_f h)] at hw
  have hlt := tkIs_lt (not_f h)
  try refine e_fl ?_
  refine e_plain (w_mv rfl rfl rfl rfl rfl (w_op rfl rfl rfl (s_bin rfl (kn rfl) (kn rfl) (v_sadd (by first | omega | (simp only [List.length_append, List.length_cons, List.length_nil]; omega)))) (w_as rfl rfl rfl rfl rfl .nil))) ?_
  try refine e_fl ?_
  refine e_plain (w_mv rfl rfl rfl rfl rfl (w_op rfl rfl rfl (s_bin rfl (kn rfl) (kn rfl) (v_add64 (by first | omega | (dsimp only; omega) | omega))) (w_as rfl rfl rfl rfl rfl .nil))) ?_
  try refine e_fl ?_
  refine e_again ⟨(m, s ++ x.1.t ++ [46], q + 1 + 1), by omega, by dsimp only; omega, by dsimp only; omega, by simp only [List.length_append, List.length_cons, List.length_nil]; omega, hw⟩ (by dsimp only; omega) (fun K => e_sub ⟨s_t, s_t, s_t, s_t, s_t, trivial⟩ ⟨s_b, trivial⟩ trivial)
 ·try refine e_fl ?_
  refine e_loop (ι := { i : Nat × List UInt8 × Nat // 1 ≤ i.1 ∧ l.length + 1 ≤ i.1 + i.2.2 ∧ i.2.2 ≤ 100001 ∧ i.2.1.length ≤ 100001 * i.2.2 + 1 ∧ sDotted l typ p = sDots l i.1 i.2.1 i.2.2 })
   (fun i => [(0, .part (tksP l)), (1, .is (.int .i64 (i.1.2.2 : Int))), (7, .is (.int .i64 0)), (8, .box 8 0), (9, .is (.string (str i.1.2.1)))])
   (fun _ => [(8, ⟨102, [.is (.int .i64 0), .is (.int .i64 0)]⟩)])
   (fun _ => [])
   (fun i => i.1.1) ⟨(l.length + 1, [], p), by omega, by dsimp only; omega, by dsimp only; omega, by simp, by unfold sDotted; rw [h]; rfl⟩
   (fun K => e_sub ⟨s_t, s_t, s_t, s_t, s_t, trivial⟩ ⟨s_b, trivial⟩ trivial) ?_
  rintro ⟨⟨n, s, q⟩, hn1, hn, hq, hs, hw⟩
  dsimp only at hn1 hn hq hs hw ⊢
  obtain ⟨m, rfl⟩ : ∃ m, n = m + 1 := ⟨n - 1, by omega⟩
  rw [sDots] at hw
  try refine e_fl ?_
  refine e_list ?_
  refine l_mv ?_
  refine l_mv ?_
  refine e_list_call rfl rfl rfl rfl (by kernel_rfl) (name_y l hl q) ⟨(kn rfl), ⟨(kn rfl), trivial⟩⟩ ?_
  rintro _ ⟨x, r, a, b, rfl, hr⟩
  refine l_mv ?_
  refine l_ex ?_
  refine l_ex ?_
  refine l_ex ?_
  refine e_alloc 10 [.is (.int .i64 0), .is (.string ⟨#[]⟩), .is (.int .i64 0), .is (.int .i64 0), .is (.int .i64 0)] rfl rfl rfl rfl zr_97 (fun w D M V => ⟨rfl, fun j x v h1 h2 => cfit_is _ h1 h2 rfl⟩) rfl rfl rfl rfl ?_
  refine e_alloc 12 [.is (.int .i64 0), .is (.int .i64 0)] rfl rfl rfl rfl zr_102 (fun w D M V => ⟨rfl, fun j x v h1 h2 => cfit_is _ h1 h2 rfl⟩) rfl rfl rfl rfl ?_
  refine e_storew rfl rfl rfl (kn rfl) rfl (kn rfl) rfl rfl sz_97 ?_
  refine l_as ?_
  refine e_storew rfl rfl rfl (kn rfl) rfl (kn rfl) rfl rfl sz_102 ?_
  refine e_nil ?_
  try refine e_fl ?_
  refine e_plain (w_op rfl rfl rfl (s_faddr_box rfl (kn rfl) off_102_1) (w_op rfl rfl rfl (s_load1_box rfl (kn rfl) rfl rfl one_3) (w_op rfl rfl rfl (s_bin rfl (kn rfl) (kn rfl) v_neq) .nil))) ?_
  try refine e_fl ?_
  refine e_cond rfl (fun h => ?_) (fun h => ?_)
  ·obtain ⟨hb, he⟩ := hr.bad h
   rw [he] at hw
   try refine e_fl ?_
   refine e_draw_mix [(8, _)] mixed (by kernel_rfl) (WalkM.op rfl rfl rfl (s_move rfl (kn rfl)) (WalkM.op rfl rfl rfl (s_loadn_box (ds := [_, _]) 2 rfl (kn rfl) rfl rfl agg_102 sz_102 rfl) (WalkM.op rfl rfl rfl (s_assign rfl (kn rfl)) (WalkM.op rfl rfl rfl (s_assign rfl (kn rfl)) (WalkM.stw rfl rfl rfl (kn rfl) rfl rfl (kn rfl) rfl rfl rfl sz_102 (WalkM.nil)))))) rfl ?_
   try refine e_fl ?_
   exact e_return rfl rfl (.tmp (kn rfl) (.tmp (kn rfl) (.cell rfl rfl rfl agg_102 sz_102 rfl (.nil)))) (Imp.refl _) (⟨[], q, a, b, rfl, .ill hb hw⟩)
  obtain ⟨rfl, rfl, ho⟩ := hr.ok h
  obtain ⟨rfl, hx, hx1, _⟩ := sName_ok ho
  have hx2 := tkAt_of hx1
  have hx3 := hl.txt q
  rw [hx2] at hx3
  rw [ho] at hw
  dsimp only at hw
  have hll := hl.len
  try refine e_fl ?_
  refine e_plain (w_mv rfl rfl rfl rfl rfl (w_op rfl rfl rfl (s_faddr_box rfl (kn rfl) off_97_1) (w_op rfl rfl rfl (s_load1_box rfl (kn rfl) rfl rfl one_9) (w_op rfl rfl rfl (s_bin rfl (kn rfl) (kn rfl) (v_sadd (by first | omega | (simp only [List.length_append, List.length_cons, List.length_nil]; omega)))) (w_as rfl rfl rfl rfl rfl .nil))))) ?_
  try refine e_fl ?_
  refine e_plain (w_mv rfl rfl rfl rfl rfl (w_as rfl rfl rfl rfl rfl .nil)) ?_
  try refine e_fl ?_
  refine e_plain (w_mv rfl rfl rfl rfl rfl (w_mv rfl rfl rfl rfl rfl (w_op rfl rfl rfl (s_call rfl (by kernel_rfl) (is_ef l (q + 1) 4 [46]) ⟨(kn rfl), ⟨(kn rfl), ⟨(kn rfl), ⟨(kn rfl), trivial⟩⟩⟩⟩) (w_op rfl rfl rfl (s_not rfl (kn rfl)) .nil)))) ?_
  try refine e_fl ?_
  refine e_cond rfl (fun h => ?_) (fun h => ?_)
  ·rw [if_neg (by rw [not_t h]; decide)] at hw
   try refine e_fl ?_
   refine e_list ?_
   refine l_mv ?_
   refine l_mv ?_
   refine l_op (s_build (ds := [_, _]) [] rfl trivial rfl pl_102 zr_102 (fun w D => .cons (.cell _) (.cons (.cell _) (.nil _ _))) rfl) ?_
   refine l_as ?_
   refine l_as ?_
   refine e_storew rfl rfl rfl (kn rfl) rfl (kn rfl) rfl rfl sz_102 ?_
   refine e_nil ?_
   try refine e_fl ?_
   exact e_return rfl rfl (.tmp (kn rfl) (.tmp (kn rfl) (.cell rfl rfl rfl agg_102 sz_102 rfl (.nil)))) (Imp.refl _) (⟨s ++ x.1.t, q + 1, 0, 0, rfl, .good hw⟩)
  rw [if_pos (not_f h)] at hw
  have hlt := tkIs_lt (not_f h)
  try refine e_fl ?_
  refine e_plain (w_mv rfl rfl rfl rfl rfl (w_op rfl rfl rfl (s_bin rfl (kn rfl) (kn rfl) (v_sadd (by first | omega | (simp only [List.length_append, List.length_cons, List.length_nil]; omega)))) (w_as rfl rfl rfl rfl rfl .nil))) ?_
  try refine e_fl ?_
  refine e_plain (w_mv rfl rfl rfl rfl rfl (w_op rfl rfl rfl (s_bin rfl (kn rfl) (kn rfl) (v_add64 (by first | omega | (dsimp only; omega) | omega))) (w_as rfl rfl rfl rfl rfl .nil))) ?_
  try refine e_fl ?_
  refine e_again ⟨(m, s ++ x.1.t ++ [46], q + 1 + 1), by omega, by dsimp only; omega, by dsimp only; omega, by simp only [List.length_append, List.length_cons, List.length_nil]; omega, hw⟩ (by dsimp only; omega) (fun K => e_sub ⟨s_t, s_t, s_t, s_t, s_t, trivial⟩ ⟨s_b, trivial⟩ trivial)
set_option maxRecDepth 100000 in
theorem semis_ef (l : List Tk) (hl : TksOk l) (p : Nat) (hp : p ≤ 100000) : EF Tryz.prog [] 91 [tksP l, iP p] (.part (iP (semis l p))) := by
 refine ef_enter 11 Tryz.func91 rfl rfl rfl fun w D => ?_
 try refine e_fl ?_
 refine e_plain (w_as rfl rfl rfl rfl rfl .nil) ?_
 try refine e_fl ?_
 refine e_loop (ι := { q : Nat // q ≤ 100000 ∧ semis l p = semis l q })
  (fun i => [(0, .part (tksP l)), (1, .is (.int .i64 (i.1 : Int)))])
  (fun _ => []) (fun _ => []) (fun i => l.length - i.1) ⟨p, hp, rfl⟩
  (fun K => e_sub ⟨s_t, s_t, trivial⟩ trivial trivial) ?_
 rintro ⟨q, hq, hw⟩
 dsimp only at hq hw ⊢
 have hll := hl.len
 try refine e_fl ?_
 refine e_plain (w_mv rfl rfl rfl rfl rfl (w_mv rfl rfl rfl rfl rfl (w_op rfl rfl rfl (s_call rfl (by kernel_rfl) (is_ef l q 4 [59]) ⟨(kn rfl), ⟨(kn rfl), ⟨(kn rfl), ⟨(kn rfl), trivial⟩⟩⟩⟩) .nil))) ?_
 try refine e_fl ?_
 refine e_cond rfl (fun h => ?_) (fun h => ?_)
 ·have hlt := tkIs_lt h
  rw [semis_more h] at hw
  try refine e_fl ?_
  refine e_plain (w_mv rfl rfl rfl rfl rfl (w_op rfl rfl rfl (s_bin rfl (kn rfl) (kn rfl) (v_add64 (by first | omega | (dsimp only; omega) | omega))) (w_as rfl rfl rfl rfl rfl .nil))) ?_
  try refine e_fl ?_
  refine e_again ⟨q + 1, by omega, hw⟩ (by dsimp only; omega) (fun K => e_sub ⟨s_t, s_t, trivial⟩ trivial trivial)
 ·rw [semis_done h] at hw
  try refine e_fl ?_
  refine e_plain (w_mv rfl rfl rfl rfl rfl (w_as rfl rfl rfl rfl rfl .nil)) ?_
  try refine e_fl ?_
  exact e_return rfl rfl (.tmp (kn rfl) (.nil)) (Imp.of_eq (by rw [hw]; rfl)) rfl
set_option maxRecDepth 100000 in
theorem head_y (l : List Tk) (hl : TksOk l) (p : Nat) (hp : p ≤ 100000) : EFx Tryz.prog [] 96 [tksP l, iP p] (RY tkQ (sHead l p)) := by
 refine ef_enter 32 Tryz.func96 rfl rfl rfl fun w D => ?_
 try refine e_fl ?_
 have hll := hl.len
 refine e_list ?_
 refine e_alloc 4 [.is (.int .i64 0), .is (.string ⟨#[]⟩), .is (.int .i64 0), .is (.int .i64 0), .is (.int .i64 0)] rfl rfl rfl rfl zr_97 (fun w D M V => ⟨rfl, fun j x v h1 h2 => cfit_is _ h1 h2 rfl⟩) rfl rfl rfl rfl ?_
 refine l_as ?_
 refine e_alloc 6 [.is (.int .i64 0), .is (.int .i64 0)] rfl rfl rfl rfl zr_102 (fun w D M V => ⟨rfl, fun j x v h1 h2 => cfit_is _ h1 h2 rfl⟩) rfl rfl rfl rfl ?_
 refine e_nil ?_
 try refine e_fl ?_
 refine e_list ?_
 refine l_mv ?_
 refine l_mv ?_
 refine e_list_call rfl rfl rfl rfl (by kernel_rfl) (name_y l hl p) ⟨(kn rfl), ⟨(kn rfl), trivial⟩⟩ ?_
 rintro _ ⟨x, q, a, b, rfl, hr⟩
 refine l_mv ?_
 refine l_ex ?_
 refine l_ex ?_
 refine l_ex ?_
 refine e_alloc 7 [.is (.int .i64 0), .is (.string ⟨#[]⟩), .is (.int .i64 0), .is (.int .i64 0), .is (.int .i64 0)] rfl rfl rfl rfl zr_97 (fun w D M V => ⟨rfl, fun j x v h1 h2 => cfit_is _ h1 h2 rfl⟩) rfl rfl rfl rfl ?_
 refine e_alloc 8 [.is (.int .i64 0), .is (.int .i64 0)] rfl rfl rfl rfl zr_102 (fun w D M V => ⟨rfl, fun j x v h1 h2 => cfit_is _ h1 h2 rfl⟩) rfl rfl rfl rfl ?_
 refine e_storew rfl rfl rfl (kn rfl) rfl (kn rfl) rfl rfl sz_97 ?_
 refine l_as ?_
 refine e_storew rfl rfl rfl (kn rfl) rfl (kn rfl) rfl rfl sz_102 ?_
 refine e_nil ?_
 try refine e_fl ?_
 refine e_plain (w_op rfl rfl rfl (s_faddr_box rfl (kn rfl) off_102_1) (w_op rfl rfl rfl (s_load1_box rfl (kn rfl) rfl rfl one_3) (w_op rfl rfl rfl (s_bin rfl (kn rfl) (kn rfl) v_neq) .nil))) ?_
 try refine e_fl ?_
 refine e_cond rfl (fun h => ?_) (fun h => ?_)
 ·obtain ⟨hb, he⟩ := hr.bad h
  try refine e_fl ?_
  refine e_draw_mix [(4, _), (6, _)] mixed (by kernel_rfl) (WalkM.op rfl rfl rfl (s_loadn_box (ds := [_, _, _, _, _]) 5 rfl (kn rfl) rfl rfl agg_97 sz_97 rfl) (WalkM.op rfl rfl rfl (s_move rfl (kn rfl)) (WalkM.op rfl rfl rfl (s_loadn_box (ds := [_, _]) 2 rfl (kn rfl) rfl rfl agg_102 sz_102 rfl) (WalkM.stw rfl rfl rfl (kn rfl) rfl rfl (kn rfl) rfl rfl rfl sz_97 (WalkM.op rfl rfl rfl (s_assign rfl (kn rfl)) (WalkM.stw rfl rfl rfl (kn rfl) rfl rfl (kn rfl) rfl rfl rfl sz_102 (WalkM.nil))))))) rfl ?_
  try refine e_fl ?_
  exact e_return rfl rfl (.cell rfl rfl rfl agg_97 sz_97 rfl (.tmp (kn rfl) (.cell rfl rfl rfl agg_102 sz_102 rfl (.nil)))) (Imp.refl _) (⟨x, q, a, b, rfl, .ill hb (by simp only [sHead, he])⟩)
 obtain ⟨rfl, rfl, ho⟩ := hr.ok h
 try refine e_fl ?_
 have hx := sName_ok ho
 refine e_list ?_
 refine l_mv ?_
 refine l_mv ?_
 refine l_op (s_buildSlice (ds := [_]) [(0, _)] rfl ⟨rfl, (kn rfl), trivial⟩ rfl sl_49 sz_9 zr_9 (fun w D => .cons (.cell _) (.nil _ _)) rfl rfl rfl rfl rfl) ?_
 refine e_list_call rfl rfl rfl rfl (by kernel_rfl) (want1 l hl 4 [123] rfl (by simp) q (by omega)) ⟨(kn rfl), ⟨(kn rfl), ⟨(kn rfl), trivial⟩⟩⟩ ?_
 rintro _ ⟨r, a, b, rfl, hr⟩
 refine l_mv ?_
 refine l_ex ?_
 refine l_ex ?_
 refine l_as ?_
 refine e_storew rfl rfl rfl (kn rfl) rfl (kn rfl) rfl rfl sz_102 ?_
 refine e_nil ?_
 try refine e_fl ?_
 refine e_draw_mix [(4, _), (6, _)] mixed (by kernel_rfl) (WalkM.op rfl rfl rfl (s_loadn_box (ds := [_, _, _, _, _]) 5 rfl (kn rfl) rfl rfl agg_97 sz_97 rfl) (WalkM.op rfl rfl rfl (s_move rfl (kn rfl)) (WalkM.op rfl rfl rfl (s_loadn_box (ds := [_, _]) 2 rfl (kn rfl) rfl rfl agg_102 sz_102 rfl) (WalkM.stw rfl rfl rfl (kn rfl) rfl rfl (kn rfl) rfl rfl rfl sz_97 (WalkM.op rfl rfl rfl (s_assign rfl (kn rfl)) (WalkM.stw rfl rfl rfl (kn rfl) rfl rfl (kn rfl) rfl rfl rfl sz_102 (WalkM.nil))))))) rfl ?_
 try refine e_fl ?_
 exact e_return rfl rfl (.cell rfl rfl rfl agg_97 sz_97 rfl (.tmp (kn rfl) (.cell rfl rfl rfl agg_102 sz_102 rfl (.nil)))) (Imp.refl _) (⟨x, r, a, b, rfl, by rcases hr with ⟨h1, h2, h3⟩ | ⟨h1, h3⟩; exact .inl ⟨h1, h2, by simp only [sHead, ho, h3]⟩; exact .inr ⟨h1, by simp only [sHead, ho, h3]⟩⟩)
end Go.Proofs.YtfcjeciepadmeaaGreatDoor
