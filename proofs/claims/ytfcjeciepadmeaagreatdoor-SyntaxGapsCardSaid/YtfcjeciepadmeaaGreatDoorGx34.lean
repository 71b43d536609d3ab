/- Part 34 of what the last text of this claim is proved by: walks over the program, and the math behind them. Conditions: as each theorem says. -/
import Derived.Test.YtfcjeciepadmeaaGreatDoorGx33
import Derived.Test.YtfcjeciepadmeaaGreatDoorProg
namespace Go.Proofs.YtfcjeciepadmeaaGreatDoor
open Go.RowKit
def setP (x : Tk) : Tk := (x.1, 3, 4)
theorem zT_set (l : List Tk) : zT (l.map setP) = zT l := by
 unfold zT
 rw [List.map_map]
 exact List.map_congr_left fun x _ => rfl
theorem tkAt_set (l : List Tk) (p : Nat) : (tkAt (l.map setP) p).1 = (tkAt l p).1 := by
 unfold tkAt
 rw [List.getD_eq_getElem?_getD, List.getD_eq_getElem?_getD, List.getElem?_map]
 cases l[p]? <;> rfl
theorem tkIs_set (l : List Tk) (p k : Nat) (t : List UInt8) : tkIs (l.map setP) p k t = tkIs l p k t := by
 unfold tkIs
 rw [List.getElem?_map]
 cases l[p]? <;> rfl
theorem ptk_set {l : List Tk} (h : PTk l) : PTk (l.map setP) := by
 obtain ⟨⟨h1, h2, h3⟩, h4, h5⟩ := h
 refine ⟨⟨by rw [List.length_map]; exact h1, fun p => by rw [tkAt_set]; exact h2 p, fun p => by rw [tkAt_set]; exact h3 p⟩, fun p t ht => ?_, fun p hk => ?_⟩
 ·rw [tkAt_set, tkIs_set]
  exact h4 p t ht
 ·rw [tkAt_set] at hk ⊢
  exact h5 p hk
theorem flat_set (x : Tk) : ∀ (xs : List Tk) (i : Nat), xs[i]? = some x → ((xs.flatMap tkD).set (i * 5 + 3) (.cell (.int .i64 3))).set (i * 5 + 4) (.cell (.int .i64 4)) = (xs.set i (setP x)).flatMap tkD
 | [], i, h => by simp at h
 | y :: ys, 0, h => by
  obtain rfl : y = x := by simpa using h
  rfl
 | y :: ys, i + 1, h => by
  have h' : ys[i]? = some x := by simpa using h
  have ih := flat_set x ys i h'
  rw [List.flatMap_cons, List.set_cons_succ, List.flatMap_cons, ← ih, List.set_append_right _ _ (by rw [tkD_len]; omega), List.set_append_right _ _ (by rw [tkD_len]; omega), tkD_len, show (i + 1) * 5 + 3 - 5 = i * 5 + 3 by omega, show (i + 1) * 5 + 4 - 5 = i * 5 + 4 by omega]
theorem flatEnm_fine {e : Enm} (h : e.fine) : (flatEnm e).fine := by
 unfold Enm.fine at h ⊢
 simpa [flatEnm] using h
theorem flatMsg_fine (a : Msg) (h : a.fine) : (flatMsg a).fine := by
 obtain ⟨f1, f2, f3, f4, f5, f6, f7, f8⟩ := (Msg.fine_iff a).1 h
 have ih : ∀ k ∈ a.msgs, (flatMsg k).fine := fun k hk => flatMsg_fine k (f8 k hk)
 cases a
 rw [flatMsg_mk]
 refine (Msg.fine_iff _).2 ⟨by simpa [Msg.fields] using f1, f2, by simpa [Msg.msgs] using f3, by simpa [Msg.enums] using f4, f5, f6, fun x hx => ?_, fun x hx => ?_⟩
 ·obtain ⟨y, hy, rfl⟩ := List.mem_map.1 hx
  exact flatEnm_fine (f7 y hy)
 ·obtain ⟨y, hy, rfl⟩ := List.mem_map.1 hx
  exact ih y hy
termination_by SizeOf.sizeOf a
decreasing_by exact Msg.mem_lt a k hk
theorem flatFil_fine {f : Fil} (h : f.fine) : (flatFil f).fine := by
 obtain ⟨f1, f2, f3, f4⟩ := h
 refine ⟨by simpa [flatFil] using f1, by simpa [flatFil] using f2, fun x hx => ?_, fun x hx => ?_⟩
 ·obtain ⟨y, hy, rfl⟩ := List.mem_map.1 hx
  exact flatEnm_fine (f3 y hy)
 ·obtain ⟨y, hy, rfl⟩ := List.mem_map.1 hx
  exact flatMsg_fine y (f4 y hy)
def NilIs (p : Part) (b : Bool) : Prop := ∀ {cx : Cx} {T : TL} {B : BL} {R : RL} {o : Oper} {x : Operand} {t t' : TypeId} {ms : Array (String × TypeId)}, o.op = .binOp .eql t x (.const .nilIface) t' → Kn T x (.part p) → Tryz.prog.underlying t = some (.interface ms) → LStep Tryz.prog cx B R o T (.is (.bool b))
theorem nil_yes : NilIs nilP true := fun ho hx ht => s_nil_eql ho hx ht
abbrev tkR (l xs : List Tk) : RL := [(600, ⟨45, 5, l.length, xs.flatMap tkD, false⟩)]
abbrev fbX (f : Fil) : Bx := ⟨26, bcs f.dats⟩
abbrev zb8 : Bx := ⟨34, [.is (.string ⟨#[]⟩), .is (.slice none 0 0), .is (.slice none 0 0)]⟩
abbrev gbX (f : Fil) : Bx := ⟨34, bcs f.dats⟩
set_option maxRecDepth 100000 in
set_option maxHeartbeats 8000000 in
theorem gaps_core {gls : List (Nat × List Value)} {A : Nat → Addr} {m : Int} (hg : OfG gls A m) (s : List UInt8) (hs : s.length ≤ 4000) (T : List (Tok × Nat)) (ea : Nat) (hT : Lex s 0 T 0 ea) (f g : Fil) (hff : f.fine) (hfg : g.fine) (hfl : flatFil f = flatFil g) (p1 p2 : Part) (b : Bool) (hn1 : NilIs p1 b) (hn2 : NilIs p2 b) (hof : EF Tryz.prog gls 6 [sP s] (.tup [FQ f, p1])) (hpar : EF Tryz.prog gls 12 [tksP ((tksOf s T).map setP)] (.tup [FQ g, p2])) :
  EF Tryz.prog gls 4 [sP s] (.part (bP true)) := by
 have hsp : ∀ (w : World) (D : Nat → Prop) (vs : List Value), GlOK gls w → PsFit w D [sP s] vs → Calls Tryz.prog 11 vs.toArray w fun e w' => ∃ v, e = .returned (.tuple #[v, .nilIface]) ∧ Below w.heap.size w w' ∧ w'.ownsRow w.heap.size 45 5 v (T.map (tokRow s)).length (T.map (tokRow s)).flatten := fun w D vs hG hp => by
  rw [one_str hp]
  refine (split_any w A m (hg.lx.lx hG) s hs T 0 ea hT).mono ?_
  rintro e w' ⟨hb, (⟨_, v, rfl, hown⟩ | ⟨h0, _⟩)⟩
  ·exact ⟨v, rfl, hb, hown⟩
  ·exact absurd rfl h0
 obtain ⟨l, hl⟩ : ∃ l, l = tksOf s T := ⟨_, rfl⟩
 have hln : (T.map (tokRow s)).length = l.length := by rw [hl]; simp [tksOf]
 have hlc : (T.map (tokRow s)).flatten.map Dat.cell = l.flatMap tkD := by rw [hl, tksOf_cells]
 have hll : l.length ≤ 4000 := by
  have := (hT.good (Nat.zero_le _)).1
  rw [hl]
  simp only [tksOf, List.length_map]
  omega
 rw [← hl] at hpar
 refine ef_enter 124 Tryz.func4 rfl rfl rfl fun w D => ?_
 try refine e_fl ?_
 refine e_plain (w_as rfl rfl rfl rfl rfl .nil) ?_
 try refine e_fl ?_
 refine e_plain (w_op rfl rfl rfl (s_call rfl (by kernel_rfl) (alive_y hg) trivial) (w_op rfl rfl rfl (s_not rfl (kn rfl)) .nil)) ?_
 try refine e_fl ?_
 refine c_no ?_
 try refine e_fl ?_
 refine e_plain (w_mv rfl rfl rfl rfl rfl (w_op rfl rfl rfl (s_slen rfl (kn rfl) str_9) (w_op rfl rfl rfl (s_bin rfl (kn rfl) (kn rfl) v_gtr) .nil))) ?_
 try refine e_fl ?_
 refine e_cond rfl (fun h => ?_) (fun _ => ?_)
 ·try refine e_fl ?_
  refine e_plain (w_as rfl rfl rfl rfl rfl .nil) ?_
  try refine e_fl ?_
  exact e_return rfl rfl (.tmp (kn rfl) (.nil)) (Imp.refl _) rfl
 try refine e_fl ?_
 refine e_list ?_
 refine l_mv ?_
 refine e_call_own (ps := [sP s]) 600 rfl rfl rfl rfl (by kernel_rfl) ⟨kn rfl, trivial⟩ hsp rfl rfl rfl rfl rfl rfl rfl rfl rfl rfl rfl rfl (by decide) rfl rfl ?_
 rw [hln, hlc]
 refine l_as ?_
 refine l_as ?_
 refine e_nil ?_
 try refine e_fl ?_
 refine e_list ?_
 refine l_mv ?_
 refine l_op (s_call rfl (by kernel_rfl) (hof) ⟨(kn rfl), trivial⟩) ?_
 refine l_mv ?_
 refine l_ex ?_
 refine l_ex ?_
 refine e_alloc 5 [.is (.string ⟨#[]⟩), .is (.slice none 0 0), .is (.slice none 0 0)] rfl rfl rfl rfl zr_26 (fun w D M V => ⟨rfl, fun j x v h1 h2 => cfit_is _ h1 h2 rfl⟩) rfl rfl rfl rfl ?_
 refine e_storew rfl rfl rfl (kn rfl) rfl (kn rfl) rfl rfl sz_26 ?_
 refine l_as ?_
 refine e_nil ?_
 try refine e_fl ?_
 refine e_plain (w_mv rfl rfl rfl rfl rfl (w_op rfl rfl rfl (s_nil_neq rfl (kn rfl) ifc_28) .nil)) ?_
 try refine e_fl ?_
 refine c_no ?_
 try refine e_fl ?_
 refine e_plain (w_mv rfl rfl rfl rfl rfl (w_op rfl rfl rfl (s_len_own rfl (kn rfl) rfl sle_41) (w_mv rfl rfl rfl rfl rfl .nil))) ?_
 try refine e_fl ?_
 refine e_loop (ι := { i : Nat × List Tk // i.1 ≤ l.length ∧ i.2.length = l.length ∧ (∀ j, j < i.1 → i.2[j]? = (l[j]?).map setP) ∧ ∀ j, i.1 ≤ j → i.2[j]? = l[j]? })
  (fun i => [(3, .own 600), (44, .is (.int .i64 (l.length : Int))), (45, .is (.int .i64 (i.1.1 : Int))), (5, .box 5 0), (6, .part p1)])
  (fun _ => [(5, fbX f)]) (fun i => tkR l i.1.2) (fun i => l.length - i.1.1) ⟨(0, l), by dsimp only; omega, rfl, fun j hj => absurd hj (Nat.not_lt_zero j), fun j _ => rfl⟩
  (fun K => e_sub ⟨s_t, s_t, s_t, s_t, s_t, trivial⟩ ⟨s_b, trivial⟩ ⟨rfl, trivial⟩) ?_
 rintro ⟨⟨i, xs⟩, hi, hxl, hx1, hx2⟩
 dsimp only at hi hxl hx1 hx2 ⊢
 try refine e_fl ?_
 refine e_plain (w_op rfl rfl rfl (s_bin rfl (kn rfl) (kn rfl) v_lss) .nil) ?_
 try refine e_fl ?_
 refine e_cond rfl (fun h => ?_) (fun h => ?_)
 ·have hlt : i < l.length := by have := of_decide_eq_true h; omega
  obtain ⟨x, hx⟩ : ∃ x, l[i]? = some x := ⟨_, List.getElem?_eq_getElem hlt⟩
  have hxi : xs[i]? = some x := (hx2 i (Nat.le_refl i)).trans hx
  try refine e_fl ?_
  refine e_plain (w_mv rfl rfl rfl rfl rfl (w_as rfl rfl rfl rfl rfl .nil)) ?_
  try refine e_fl ?_
  refine e_list ?_
  refine l_mv ?_
  refine l_mv ?_
  refine l_mv ?_
  refine l_mv ?_
  refine e_row_set (ix := i) rfl rfl rfl rfl (kn rfl) rfl (kn rfl) hlt sle_41 esz_41 rfl rfl rfl rfl off_45_3 (by decide) rfl rfl rfl (kn rfl) rfl sz_3 rfl ?_
  refine e_row_set (ix := i) rfl rfl rfl rfl (kn rfl) rfl (kn rfl) hlt sle_41 esz_41 rfl rfl rfl rfl off_45_4 (by decide) rfl rfl rfl (kn rfl) rfl sz_3 (flat_set x xs i hxi) ?_
  refine e_nil ?_
  try refine e_fl ?_
  refine e_plain (w_op rfl rfl rfl (s_bin rfl (kn rfl) (kn rfl) (v_add64 (by first | omega | (dsimp only; omega) | omega))) (w_mv rfl rfl rfl rfl rfl .nil)) ?_
  try refine e_fl ?_
  refine e_again ⟨(i + 1, xs.set i (setP x)), by dsimp only; omega, by simpa using hxl, fun j hj => by
   dsimp only at hj ⊢
   rw [List.getElem?_set]
   split
   ·rename_i hij
    subst hij
    rw [if_pos (by omega), hx]
    rfl
   ·exact hx1 j (by omega), fun j hj => by
   dsimp only at hj ⊢
   rw [List.getElem?_set, if_neg (by omega)]
   exact hx2 j (by omega)⟩ (by dsimp only; omega) (fun K => e_sub ⟨s_t, s_t, s_t, s_t, s_t, trivial⟩ ⟨s_b, trivial⟩ ⟨rfl, trivial⟩)
 have hil : i = l.length := by have := of_decide_eq_false h; omega
 have hxe : xs = l.map setP := List.ext_getElem? fun j => by
  rw [List.getElem?_map]
  rcases Nat.lt_or_ge j l.length with hj | hj
  ·exact hx1 j (by omega)
  ·rw [hx2 j (by omega), List.getElem?_eq_none hj]
   rfl
 subst hxe
 try refine e_fl ?_
 refine e_list ?_
 refine l_mv ?_
 refine e_freeze_slot 58 600 rfl rfl rfl ?_
 have ep : tksP (l.map setP) = Part.one (.row 5 l.length ((l.map setP).flatMap tkD)) := by
  show Part.one (.row 5 (l.map setP).length _) = _
  rw [List.length_map]
 rw [ep] at hpar
 refine l_op (s_call rfl (by kernel_rfl) (hpar) ⟨(kn rfl), trivial⟩) ?_
 refine l_mv ?_
 refine l_ex ?_
 refine l_ex ?_
 refine e_alloc 8 [.is (.string ⟨#[]⟩), .is (.slice none 0 0), .is (.slice none 0 0)] rfl rfl rfl rfl zr_26 (fun w D M V => ⟨rfl, fun j x v h1 h2 => cfit_is _ h1 h2 rfl⟩) rfl rfl rfl rfl ?_
 refine e_storew rfl rfl rfl (kn rfl) rfl (kn rfl) rfl rfl sz_26 ?_
 refine l_as ?_
 refine e_nil ?_
 try refine e_fl ?_
 refine e_draw mixed (by kernel_rfl) (w_mv rfl rfl rfl rfl rfl (w_op rfl rfl rfl (hn1 rfl (kn rfl) ifc_28) (w_mv rfl rfl rfl rfl rfl (w_op rfl rfl rfl (hn2 rfl (kn rfl) ifc_28) (w_op rfl rfl rfl (s_bin rfl (kn rfl) (kn rfl) (v_bne bool_4)) .nil))))) ?_
 try refine e_fl ?_
 refine e_cond rfl (fun h => absurd h (by cases b <;> decide)) (fun _ => ?_)
 try refine e_fl ?_
 have hOf : EF Tryz.prog gls 10 [FQ f] (.part (FQ f)) := (of_ef f hff).any
 have hOg : EF Tryz.prog gls 10 [FQ g] (.part (FQ g)) := (of_ef g hfg).any
 have hFf : EF Tryz.prog gls 13 [FQ f] (.part (FQ (flatFil f))) := (flat_ef f hff).any
 have hFg : EF Tryz.prog gls 13 [FQ g] (.part (FQ (flatFil g))) := (flat_ef g hfg).any
 refine e_sub (T' := [(5, .box 5 0), (8, .box 8 0)]) (B' := [(5, fbX f), (8, fbX g)]) (R' := []) ⟨s_t, s_t, trivial⟩ ⟨s_b, s_b, trivial⟩ trivial ?_
 refine e_draw_st 10 [[], [0], [1, 1], [], [3, 2], [4, 4], [], [], [6, 2, 5, 0, 1, 2, 6, 7], [7, 5, 8, 0, 1, 2, 3, 4, 5, 6, 7, 8]] [[false, false, false, false, false, false, false, false, false, false], [true, false, false, false, false, false, false, false, false, false], [false, false, false, true, false, false, false, false, false, false], [false, false, false, false, false, false, true, false, false, false], [false, false, false, false, false, false, false, true, false, false], [true, true, false, false, false, false, false, false, false, false], [true, false, false, true, false, false, false, false, false, false], [true, false, false, false, false, false, true, false, false, false], [true, false, false, false, false, false, false, true, false, false], [false, false, false, true, false, false, true, false, false, false], [false, false, false, true, false, false, false, true, false, false], [false, false, false, false, false, false, true, true, false, false], [true, true, true, false, false, false, false, false, false, false], [true, true, false, true, false, false, false, false, false, false], [true, true, false, false, false, false, true, false, false, false], [true, true, false, false, false, false, false, true, false, false], [true, false, false, true, false, false, true, false, false, false], [true, false, false, true, false, false, false, true, false, false], [true, false, false, false, false, false, true, true, false, false], [false, false, false, true, false, false, true, true, false, false], [true, true, true, true, false, false, false, false, false, false], [true, true, true, false, false, false, true, false, false, false], [true, true, true, false, false, false, false, true, false, false], [true, true, false, true, false, false, true, false, false, false], [true, true, false, true, false, false, false, true, false, false], [true, true, false, false, false, false, true, true, false, false], [true, false, false, true, false, false, true, true, false, false], [true, true, true, true, true, false, false, false, false, false], [true, true, true, true, false, false, true, false, false, false], [true, true, true, true, false, false, false, true, false, false], [true, true, true, false, false, false, true, true, false, false], [true, true, false, true, false, false, true, true, false, false], [true, true, true, true, true, true, false, false, false, false], [true, true, true, true, true, false, true, false, false, false], [true, true, true, true, true, false, false, true, false, false], [true, true, true, true, false, false, true, true, false, false], [true, true, true, true, true, true, true, false, false, false], [true, true, true, true, true, true, false, true, false, false], [true, true, true, true, true, false, true, true, false, false], [true, true, true, true, true, true, true, true, false, false], [true, true, true, true, true, true, true, true, true, false], [true, true, true, true, true, true, true, true, true, true]] [([false, false, false, false, false, false, false, false, false, false], 0), ([false, false, false, false, false, false, false, false, false, false], 3), ([false, false, false, false, false, false, false, false, false, false], 6), ([false, false, false, false, false, false, false, false, false, false], 7), ([true, false, false, false, false, false, false, false, false, false], 1), ([true, false, false, false, false, false, false, false, false, false], 3), ([true, false, false, false, false, false, false, false, false, false], 6), ([true, false, false, false, false, false, false, false, false, false], 7), ([false, false, false, true, false, false, false, false, false, false], 0), ([false, false, false, true, false, false, false, false, false, false], 6), ([false, false, false, true, false, false, false, false, false, false], 7), ([false, false, false, false, false, false, true, false, false, false], 0), ([false, false, false, false, false, false, true, false, false, false], 3), ([false, false, false, false, false, false, true, false, false, false], 7), ([false, false, false, false, false, false, false, true, false, false], 0), ([false, false, false, false, false, false, false, true, false, false], 3), ([false, false, false, false, false, false, false, true, false, false], 6), ([true, true, false, false, false, false, false, false, false, false], 2), ([true, true, false, false, false, false, false, false, false, false], 3), ([true, true, false, false, false, false, false, false, false, false], 6), ([true, true, false, false, false, false, false, false, false, false], 7), ([true, false, false, true, false, false, false, false, false, false], 1), ([true, false, false, true, false, false, false, false, false, false], 6), ([true, false, false, true, false, false, false, false, false, false], 7), ([true, false, false, false, false, false, true, false, false, false], 1), ([true, false, false, false, false, false, true, false, false, false], 3), ([true, false, false, false, false, false, true, false, false, false], 7), ([true, false, false, false, false, false, false, true, false, false], 1), ([true, false, false, false, false, false, false, true, false, false], 3), ([true, false, false, false, false, false, false, true, false, false], 6), ([false, false, false, true, false, false, true, false, false, false], 0), ([false, false, false, true, false, false, true, false, false, false], 7), ([false, false, false, true, false, false, false, true, false, false], 0), ([false, false, false, true, false, false, false, true, false, false], 6), ([false, false, false, false, false, false, true, true, false, false], 0), ([false, false, false, false, false, false, true, true, false, false], 3), ([true, true, true, false, false, false, false, false, false, false], 3), ([true, true, true, false, false, false, false, false, false, false], 6), ([true, true, true, false, false, false, false, false, false, false], 7), ([true, true, false, true, false, false, false, false, false, false], 2), ([true, true, false, true, false, false, false, false, false, false], 6), ([true, true, false, true, false, false, false, false, false, false], 7), ([true, true, false, false, false, false, true, false, false, false], 2), ([true, true, false, false, false, false, true, false, false, false], 3), ([true, true, false, false, false, false, true, false, false, false], 7), ([true, true, false, false, false, false, false, true, false, false], 2), ([true, true, false, false, false, false, false, true, false, false], 3), ([true, true, false, false, false, false, false, true, false, false], 6), ([true, false, false, true, false, false, true, false, false, false], 1), ([true, false, false, true, false, false, true, false, false, false], 7), ([true, false, false, true, false, false, false, true, false, false], 1), ([true, false, false, true, false, false, false, true, false, false], 6), ([true, false, false, false, false, false, true, true, false, false], 1), ([true, false, false, false, false, false, true, true, false, false], 3), ([false, false, false, true, false, false, true, true, false, false], 0), ([true, true, true, true, false, false, false, false, false, false], 4), ([true, true, true, true, false, false, false, false, false, false], 6), ([true, true, true, true, false, false, false, false, false, false], 7), ([true, true, true, false, false, false, true, false, false, false], 3), ([true, true, true, false, false, false, true, false, false, false], 7), ([true, true, true, false, false, false, false, true, false, false], 3), ([true, true, true, false, false, false, false, true, false, false], 6), ([true, true, false, true, false, false, true, false, false, false], 2), ([true, true, false, true, false, false, true, false, false, false], 7), ([true, true, false, true, false, false, false, true, false, false], 2), ([true, true, false, true, false, false, false, true, false, false], 6), ([true, true, false, false, false, false, true, true, false, false], 2), ([true, true, false, false, false, false, true, true, false, false], 3), ([true, false, false, true, false, false, true, true, false, false], 1), ([true, true, true, true, true, false, false, false, false, false], 5), ([true, true, true, true, true, false, false, false, false, false], 6), ([true, true, true, true, true, false, false, false, false, false], 7), ([true, true, true, true, false, false, true, false, false, false], 4), ([true, true, true, true, false, false, true, false, false, false], 7), ([true, true, true, true, false, false, false, true, false, false], 4), ([true, true, true, true, false, false, false, true, false, false], 6), ([true, true, true, false, false, false, true, true, false, false], 3), ([true, true, false, true, false, false, true, true, false, false], 2), ([true, true, true, true, true, true, false, false, false, false], 6), ([true, true, true, true, true, true, false, false, false, false], 7), ([true, true, true, true, true, false, true, false, false, false], 5), ([true, true, true, true, true, false, true, false, false, false], 7), ([true, true, true, true, true, false, false, true, false, false], 5), ([true, true, true, true, true, false, false, true, false, false], 6), ([true, true, true, true, false, false, true, true, false, false], 4), ([true, true, true, true, true, true, true, false, false, false], 7), ([true, true, true, true, true, true, false, true, false, false], 6), ([true, true, true, true, true, false, true, true, false, false], 5), ([true, true, true, true, true, true, true, true, false, false], 8), ([true, true, true, true, true, true, true, true, true, false], 9)] [(0, 67, .part (FQ f)), (1, 68, .part (FQ f)), (2, 69, .part (FQ (flatFil f))), (3, 70, .part (FQ g)), (4, 71, .part (FQ g)), (5, 72, .part (FQ (flatFil g))), (6, 10, .box 10 0), (7, 11, .box 11 0)] [(8, 10, gbX (flatFil f)), (9, 11, gbX (flatFil g)), (6, 10, zb8), (7, 11, zb8)] [(5, .box 5 0), (8, .box 8 0)] [(5, fbX f), (8, fbX g)] (by kernel_rfl) rfl mixed (by kernel_rfl) (by decide) (fun K h => h) ?_ ?_
 ·repeat' first
   | exact trivial
   | refine And.intro ?_ ?_
  all_goals
   intro K hK
   first
    | (refine e_opi (i := 0) rfl (fun h => h) ?_; refine l_op (s_loadn_box (ds := [_, _, _]) 3 rfl (kn rfl) rfl rfl agg_26 sz_26 rfl) ?_; refine e_nil ?_; refine e_fl ?_; exact e_subK hK (by repeat' first | exact trivial | refine And.intro s_t ?_) (by repeat' first | exact trivial | refine And.intro s_b ?_))
    | (refine e_opi (i := 1) rfl (fun h => h) ?_; refine l_op (s_call rfl (by kernel_rfl) (hOf) ⟨(kn rfl), trivial⟩) ?_; refine e_nil ?_; refine e_fl ?_; exact e_subK hK (by repeat' first | exact trivial | refine And.intro s_t ?_) (by repeat' first | exact trivial | refine And.intro s_b ?_))
    | (refine e_opi (i := 2) rfl (fun h => h) ?_; refine l_op (s_call rfl (by kernel_rfl) (hFf) ⟨(kn rfl), trivial⟩) ?_; refine e_nil ?_; refine e_fl ?_; exact e_subK hK (by repeat' first | exact trivial | refine And.intro s_t ?_) (by repeat' first | exact trivial | refine And.intro s_b ?_))
    | (refine e_opi (i := 3) rfl (fun h => h) ?_; refine l_op (s_loadn_box (ds := [_, _, _]) 3 rfl (kn rfl) rfl rfl agg_26 sz_26 rfl) ?_; refine e_nil ?_; refine e_fl ?_; exact e_subK hK (by repeat' first | exact trivial | refine And.intro s_t ?_) (by repeat' first | exact trivial | refine And.intro s_b ?_))
    | (refine e_opi (i := 4) rfl (fun h => h) ?_; refine l_op (s_call rfl (by kernel_rfl) (hOg) ⟨(kn rfl), trivial⟩) ?_; refine e_nil ?_; refine e_fl ?_; exact e_subK hK (by repeat' first | exact trivial | refine And.intro s_t ?_) (by repeat' first | exact trivial | refine And.intro s_b ?_))
    | (refine e_opi (i := 5) rfl (fun h => h) ?_; refine l_op (s_call rfl (by kernel_rfl) (hFg) ⟨(kn rfl), trivial⟩) ?_; refine e_nil ?_; refine e_fl ?_; exact e_subK hK (by repeat' first | exact trivial | refine And.intro s_t ?_) (by repeat' first | exact trivial | refine And.intro s_b ?_))
    | (refine e_opi (i := 6) rfl (fun h => h) ?_; refine e_alloc 10 [.is (.string ⟨#[]⟩), .is (.slice none 0 0), .is (.slice none 0 0)] rfl rfl rfl rfl zr_34 (fun w D M V => ⟨rfl, fun j x v h1 h2 => cfit_is _ h1 h2 rfl⟩) rfl rfl rfl rfl ?_; refine e_nil ?_; refine e_fl ?_; exact e_subK hK (by repeat' first | exact trivial | refine And.intro s_t ?_) (by repeat' first | exact trivial | refine And.intro s_b ?_))
    | (refine e_opi (i := 7) rfl (fun h => h) ?_; refine e_alloc 11 [.is (.string ⟨#[]⟩), .is (.slice none 0 0), .is (.slice none 0 0)] rfl rfl rfl rfl zr_34 (fun w D M V => ⟨rfl, fun j x v h1 h2 => cfit_is _ h1 h2 rfl⟩) rfl rfl rfl rfl ?_; refine e_nil ?_; refine e_fl ?_; exact e_subK hK (by repeat' first | exact trivial | refine And.intro s_t ?_) (by repeat' first | exact trivial | refine And.intro s_b ?_))
    | (refine e_opi (i := 8) rfl (fun h => h) ?_; refine e_storew rfl rfl rfl (kn rfl) rfl (kn rfl) rfl rfl sz_34 ?_; refine e_nil ?_; refine e_fl ?_; exact e_subK hK (by repeat' first | exact trivial | refine And.intro s_t ?_) (by repeat' first | exact trivial | refine And.intro s_b ?_))
    | (refine e_opi (i := 9) rfl (fun h => h) ?_; refine e_storew rfl rfl rfl (kn rfl) rfl (kn rfl) rfl rfl sz_34 ?_; refine e_nil ?_; refine e_fl ?_; exact e_subK hK (by repeat' first | exact trivial | refine And.intro s_t ?_) (by repeat' first | exact trivial | refine And.intro s_b ?_))
 try refine e_fl ?_
 have hml : f.msgs.length = g.msgs.length := by
  have := congrArg (fun x => x.msgs.length) hfl
  simpa [flatFil] using this
 refine e_plain (w_op rfl rfl rfl (s_faddr_box rfl (kn rfl) off_26_1) (w_op rfl rfl rfl (s_load1_box rfl (kn rfl) rfl rfl one_23) (w_op rfl rfl rfl (s_len rfl (kn rfl) sle_23) (w_op rfl rfl rfl (s_faddr_box rfl (kn rfl) off_26_1) (w_op rfl rfl rfl (s_load1_box rfl (kn rfl) rfl rfl one_23) (w_op rfl rfl rfl (s_len rfl (kn rfl) sle_23) (w_op rfl rfl rfl (s_bin rfl (kn rfl) (kn rfl) v_neq) .nil))))))) ?_
 try refine e_fl ?_
 refine e_cond rfl (fun h => absurd h (by rw [hml]; simp)) (fun _ => ?_)
 try refine e_fl ?_
 refine e_plain (w_op rfl rfl rfl (s_faddr_box rfl (kn rfl) off_26_1) (w_op rfl rfl rfl (s_load1_box rfl (kn rfl) rfl rfl one_23) (w_op rfl rfl rfl (s_len rfl (kn rfl) sle_23) (w_mv rfl rfl rfl rfl rfl .nil)))) ?_
 try refine e_fl ?_
 refine e_loop (ι := { k : Nat // k ≤ f.msgs.length })
  (fun k => [(5, .box 5 0), (8, .box 8 0), (10, .box 10 0), (11, .box 11 0), (81, .part (.one (.row 9 f.msgs.length (f.msgs.flatMap Msg.dats)))), (82, .is (.int .i64 (f.msgs.length : Int))), (83, .is (.int .i64 (k.1 : Int)))])
  (fun _ => [(5, fbX f), (8, fbX g), (10, gbX (flatFil f)), (11, gbX (flatFil g))]) (fun _ => []) (fun k => f.msgs.length - k.1) ⟨0, by omega⟩
  (fun K => e_sub ⟨s_t, s_t, s_t, s_t, s_t, s_t, s_t, trivial⟩ ⟨s_b, s_b, s_b, s_b, trivial⟩ trivial) ?_
 rintro ⟨k, hk⟩
 dsimp only at hk ⊢
 try refine e_fl ?_
 refine e_plain (w_op rfl rfl rfl (s_bin rfl (kn rfl) (kn rfl) v_lss) .nil) ?_
 try refine e_fl ?_
 have hfm := hff.1
 refine e_cond rfl (fun h => ?_) (fun h => ?_)
 ·have hlt : k < f.msgs.length := by have := of_decide_eq_true h; omega
  obtain ⟨x, hx⟩ : ∃ x, f.msgs[k]? = some x := ⟨_, List.getElem?_eq_getElem hlt⟩
  obtain ⟨y, hy⟩ : ∃ y, g.msgs[k]? = some y := ⟨_, List.getElem?_eq_getElem (by omega)⟩
  have hxy : nfW x = nfW y := by
   have h1 := congrArg (fun z => z.msgs[k]?) hfl
   simp only [flatFil, List.getElem?_map, hx, hy, Option.map_some, Option.some.injEq] at h1
   rw [← nfW_flat x, h1, nfW_flat y]
  have hfx := hff.2.2.2 x (List.mem_of_getElem? hx)
  have hfy := hfg.2.2.2 y (List.mem_of_getElem? hy)
  try refine e_fl ?_
  refine e_list ?_
  refine l_mv ?_
  refine l_op (s_index rfl (kn rfl) (kn rfl) (by omega) hx Msg.dats_len sle_23 esz_23 (dats_md x)) ?_
  refine l_op (s_loadn_ref rfl (kn rfl) agg_52 sz_52) ?_
  refine e_alloc 13 [.is (.string ⟨#[]⟩), .is (.slice none 0 0), .is (.slice none 0 0), .is (.slice none 0 0), .is (.slice none 0 0), .is (.slice none 0 0), .is (.slice none 0 0), .is (.int .i64 0), .is (.int .i64 0)] rfl rfl rfl rfl zr_52 (fun w D M V => ⟨rfl, fun j x v h1 h2 => cfit_is _ h1 h2 rfl⟩) rfl rfl rfl rfl ?_
  refine l_as ?_
  refine e_storew rfl rfl rfl (kn rfl) rfl (kn rfl) rfl rfl sz_52 ?_
  refine e_nil ?_
  try refine e_fl ?_
  refine e_draw mixed (by kernel_rfl) (w_op rfl rfl rfl (s_loadn_box (ds := [_, _, _, _, _, _, _, _, _]) 9 rfl (kn rfl) rfl rfl agg_52 sz_52 rfl) (w_op rfl rfl rfl (s_call rfl (by kernel_rfl) ((fields_ef x hfx).any) ⟨(kn rfl), trivial⟩) (w_op rfl rfl rfl (s_faddr_box rfl (kn rfl) off_26_1) (w_op rfl rfl rfl (s_load1_box rfl (kn rfl) rfl rfl one_23) (w_mv rfl rfl rfl rfl rfl (w_op rfl rfl rfl (s_index rfl (kn rfl) (kn rfl) (by omega) hy Msg.dats_len sle_23 esz_23 (dats_md y)) (w_op rfl rfl rfl (s_loadn_ref rfl (kn rfl) agg_52 sz_52) (w_op rfl rfl rfl (s_call rfl (by kernel_rfl) ((fields_ef y hfy).any) ⟨(kn rfl), trivial⟩) (w_op rfl rfl rfl (s_bin rfl (kn rfl) (kn rfl) v_neq) (w_mv rfl rfl rfl rfl rfl (Walk.gd _ rfl rfl rfl (fun h => s_loadn_box (ds := [_, _, _, _, _, _, _, _, _]) 9 rfl (kn rfl) rfl rfl agg_52 sz_52 rfl) (Walk.gd _ rfl rfl rfl (fun h => s_call rfl (by kernel_rfl) ((fields_ef x hfx).any) ⟨(kn_opt rfl h), trivial⟩) (Walk.gd _ rfl rfl rfl (fun h => s_loadn_box (ds := [_, _, _, _, _, _, _, _, _]) 9 rfl (kn rfl) rfl rfl agg_52 sz_52 rfl) (Walk.gd _ rfl rfl rfl (fun h => s_call rfl (by kernel_rfl) ((count_ef x hfx).any) ⟨(kn_opt rfl h), trivial⟩) (Walk.gd _ rfl rfl rfl (fun h => s_bin rfl (kn_opt rfl h) (kn_opt rfl h) v_neq) (w_op rfl rfl rfl (s_or rfl (kn rfl) (fun hb => kn_opt rfl hb)) .nil)))))))))))))))) ?_
  try refine e_fl ?_
  refine e_cond rfl (fun h => absurd h (by rw [hxy]; simp)) (fun _ => ?_)
  try refine e_fl ?_
  refine e_plain (w_op rfl rfl rfl (s_bin rfl (kn rfl) (kn rfl) (v_add64 (by first | omega | (dsimp only; omega) | omega))) (w_mv rfl rfl rfl rfl rfl .nil)) ?_
  try refine e_fl ?_
  refine e_again ⟨k + 1, by omega⟩ (by dsimp only; omega) (fun K => e_sub ⟨s_t, s_t, s_t, s_t, s_t, s_t, s_t, trivial⟩ ⟨s_b, s_b, s_b, s_b, trivial⟩ trivial)
 try refine e_fl ?_
 have hAB : EF Tryz.prog gls 9 [FQ (flatFil f), FQ (flatFil g)] (.part (bP (cdec (flatFil f = flatFil g)))) := (same_ef _ _ (flatFil_fine hff)).any
 have hSfg : EF Tryz.prog gls 16 [FQ f, FQ g] (.part (bP (cdec (f = g)))) := (sameS_ef f g hff).any
 have hSff : EF Tryz.prog gls 16 [FQ f, FQ f] (.part (bP (cdec (f = f)))) := (sameS_ef f f hff).any
 have hRfg : EF Tryz.prog gls 9 [FQ f, FQ g] (.part (bP (cdec (f = g)))) := (same_ef f g hff).any
 refine e_draw mixed (by kernel_rfl) (w_op rfl rfl rfl (s_loadn_box (ds := [_, _, _]) 3 rfl (kn rfl) rfl rfl agg_34 sz_34 rfl) (w_op rfl rfl rfl (s_loadn_box (ds := [_, _, _]) 3 rfl (kn rfl) rfl rfl agg_34 sz_34 rfl) (w_op rfl rfl rfl (s_call rfl (by kernel_rfl) (hAB) ⟨(kn rfl), ⟨(kn rfl), trivial⟩⟩) (w_mv rfl rfl rfl rfl rfl (Walk.gd _ rfl rfl rfl (fun h => s_loadn_box (ds := [_, _, _]) 3 rfl (kn rfl) rfl rfl agg_26 sz_26 rfl) (Walk.gd _ rfl rfl rfl (fun h => s_loadn_box (ds := [_, _, _]) 3 rfl (kn rfl) rfl rfl agg_26 sz_26 rfl) (Walk.gd _ rfl rfl rfl (fun h => s_call rfl (by kernel_rfl) (hSfg) ⟨(kn_opt rfl h), ⟨(kn_opt rfl h), trivial⟩⟩) (Walk.gd _ rfl rfl rfl (fun h => s_loadn_box (ds := [_, _, _]) 3 rfl (kn rfl) rfl rfl agg_26 sz_26 rfl) (Walk.gd _ rfl rfl rfl (fun h => s_call rfl (by kernel_rfl) (hOf) ⟨(kn_opt rfl h), trivial⟩) (Walk.gd _ rfl rfl rfl (fun h => s_loadn_box (ds := [_, _, _]) 3 rfl (kn rfl) rfl rfl agg_26 sz_26 rfl) (Walk.gd _ rfl rfl rfl (fun h => s_call rfl (by kernel_rfl) (hOg) ⟨(kn_opt rfl h), trivial⟩) (Walk.gd _ rfl rfl rfl (fun h => s_call rfl (by kernel_rfl) (hRfg) ⟨(kn_opt rfl h), ⟨(kn_opt rfl h), trivial⟩⟩) (Walk.gd _ rfl rfl rfl (fun h => s_bin rfl (kn_opt rfl h) (kn_opt rfl h) (v_beq bool_4)) (w_op rfl rfl rfl (s_and rfl (kn rfl) (fun hb => kn_opt rfl hb)) (w_mv rfl rfl rfl rfl rfl (Walk.gd _ rfl rfl rfl (fun h => s_loadn_box (ds := [_, _, _]) 3 rfl (kn rfl) rfl rfl agg_26 sz_26 rfl) (Walk.gd _ rfl rfl rfl (fun h => s_loadn_box (ds := [_, _, _]) 3 rfl (kn rfl) rfl rfl agg_26 sz_26 rfl) (Walk.gd _ rfl rfl rfl (fun h => s_call rfl (by kernel_rfl) (hSff) ⟨(kn_opt rfl h), ⟨(kn_opt rfl h), trivial⟩⟩) (w_op rfl rfl rfl (s_and rfl (kn rfl) (fun hb => kn_opt rfl hb)) (w_as rfl rfl rfl rfl rfl .nil)))))))))))))))))))) ?_
 try refine e_fl ?_
 exact e_return rfl rfl (.tmp (kn rfl) (.nil)) (Imp.of_eq (by rw [cdec_yes hfl, cdec_yes (rfl : f = f)]; simp; rfl)) rfl
end Go.Proofs.YtfcjeciepadmeaaGreatDoor
namespace Go.Proofs.YtfcjeciepadmeaaGreatDoor
open Go.RowKit
theorem EFx.imp {P : Program} {gls : List (Nat × List Value)} {f : FuncId} {ps : List Part} {Y : IV → Prop} {y' : IV} (h : EFx P gls f ps Y) (hi : ∀ y, Y y → Imp y y') : EF P gls f ps y' := fun w D vs hD hG hp => (h w D vs hD hG hp).mono fun _ _ ⟨v, y, h1, h2, h3, h4⟩ => ⟨v, y', h1, rfl, h3, fun M V => hi y h2 _ _ _ _ _ (h4 M V)⟩
theorem nil_ifc (t : TypeId) (d : Dat) : NilIs (.one (.ifc t d)) false := fun ho hx ht => s_err_eql ho hx rfl ht
set_option maxRecDepth 100000 in
theorem gaps_long {gls : List (Nat × List Value)} {A : Nat → Addr} {m : Int} (hg : OfG gls A m) (s : List UInt8) (hs : 1500 < s.length) : EF Tryz.prog gls 4 [sP s] (.part (bP true)) := by
 refine ef_enter 124 Tryz.func4 rfl rfl rfl fun w D => ?_
 try refine e_fl ?_
 refine e_plain (w_as rfl rfl rfl rfl rfl .nil) ?_
 try refine e_fl ?_
 refine e_plain (w_op rfl rfl rfl (s_call rfl (by kernel_rfl) (alive_y hg) trivial) (w_op rfl rfl rfl (s_not rfl (kn rfl)) .nil)) ?_
 try refine e_fl ?_
 refine c_no ?_
 try refine e_fl ?_
 refine e_plain (w_mv rfl rfl rfl rfl rfl (w_op rfl rfl rfl (s_slen rfl (kn rfl) str_9) (w_op rfl rfl rfl (s_bin rfl (kn rfl) (kn rfl) v_gtr) .nil))) ?_
 try refine e_fl ?_
 refine e_cond rfl (fun h => ?_) (fun h => absurd (of_decide_eq_false h) (by omega))
 try refine e_fl ?_
 refine e_plain (w_as rfl rfl rfl rfl rfl .nil) ?_
 try refine e_fl ?_
 exact e_return rfl rfl (.tmp (kn rfl) (.nil)) (Imp.refl _) rfl
set_option maxRecDepth 100000 in
theorem gaps_bad {gls : List (Nat × List Value)} {A : Nat → Addr} {m : Int} (hg : OfG gls A m) (s : List UInt8) (hs : s.length ≤ 4000) (T : List (Tok × Nat)) (b ea : Nat) (hb : b ≠ 0) (hT : Lex s 0 T b ea) : EF Tryz.prog gls 4 [sP s] (.part (bP true)) := by
 have hsp : EF Tryz.prog gls 11 [sP s] (.tup [nilS, fltR A (placeAt s ea).1 (placeAt s ea).2 b]) := (split_y hg.lx s hs T b ea hT).mono fun y hy => by
  rcases hy with ⟨h, _⟩ | ⟨_, h⟩
  ·exact absurd h hb
  ·exact h
 have hof : EF Tryz.prog gls 6 [sP s] (.tup [.many [.cell (.string (str [])), .row 9 0 [], .row 4 0 []], fltR A (placeAt s ea).1 (placeAt s ea).2 b]) := by
  have h := of_y hg s hs T b ea hT
  have ha : sAns s T b ea = (fil0, b, (placeAt s ea).1, (placeAt s ea).2) := if_neg hb
  rw [ha] at h
  have e : progY A (fil0, b, (placeAt s ea).1, (placeAt s ea).2) = .tup [.many [.cell (.string (str [])), .row 9 0 [], .row 4 0 []], fltR A (placeAt s ea).1 (placeAt s ea).2 b] := by
   simp only [progY, if_neg hb]
   rfl
  rw [e] at h
  exact h
 refine ef_enter 124 Tryz.func4 rfl rfl rfl fun w D => ?_
 try refine e_fl ?_
 refine e_plain (w_as rfl rfl rfl rfl rfl .nil) ?_
 try refine e_fl ?_
 refine e_plain (w_op rfl rfl rfl (s_call rfl (by kernel_rfl) (alive_y hg) trivial) (w_op rfl rfl rfl (s_not rfl (kn rfl)) .nil)) ?_
 try refine e_fl ?_
 refine c_no ?_
 try refine e_fl ?_
 refine e_plain (w_mv rfl rfl rfl rfl rfl (w_op rfl rfl rfl (s_slen rfl (kn rfl) str_9) (w_op rfl rfl rfl (s_bin rfl (kn rfl) (kn rfl) v_gtr) .nil))) ?_
 try refine e_fl ?_
 refine e_cond rfl (fun h => ?_) (fun _ => ?_)
 ·try refine e_fl ?_
  refine e_plain (w_as rfl rfl rfl rfl rfl .nil) ?_
  try refine e_fl ?_
  exact e_return rfl rfl (.tmp (kn rfl) (.nil)) (Imp.refl _) rfl
 try refine e_fl ?_
 refine e_plain (w_mv rfl rfl rfl rfl rfl (w_op rfl rfl rfl (s_call rfl (by kernel_rfl) (hsp) ⟨(kn rfl), trivial⟩) (w_mv rfl rfl rfl rfl rfl (w_op rfl rfl rfl (s_extract rfl (kn rfl) rfl) (w_op rfl rfl rfl (s_extract rfl (kn rfl) rfl) (w_as rfl rfl rfl rfl rfl (w_as rfl rfl rfl rfl rfl .nil))))))) ?_
 try refine e_fl ?_
 refine e_list ?_
 refine l_mv ?_
 refine l_op (s_call rfl (by kernel_rfl) (hof) ⟨(kn rfl), trivial⟩) ?_
 refine l_mv ?_
 refine l_ex ?_
 refine l_ex ?_
 refine e_alloc 5 [.is (.string ⟨#[]⟩), .is (.slice none 0 0), .is (.slice none 0 0)] rfl rfl rfl rfl zr_26 (fun w D M V => ⟨rfl, fun j x v h1 h2 => cfit_is _ h1 h2 rfl⟩) rfl rfl rfl rfl ?_
 refine e_storew rfl rfl rfl (kn rfl) rfl (kn rfl) rfl rfl sz_26 ?_
 refine l_as ?_
 refine e_nil ?_
 try refine e_fl ?_
 refine e_plain (w_mv rfl rfl rfl rfl rfl (w_op rfl rfl rfl (s_err_neq rfl (kn rfl) rfl ifc_28) .nil)) ?_
 try refine e_fl ?_
 refine c_yes ?_
 try refine e_fl ?_
 refine e_plain (w_mv rfl rfl rfl rfl rfl (w_op rfl rfl rfl (s_err_neq rfl (kn rfl) rfl ifc_28) (w_mv rfl rfl rfl rfl rfl (Walk.gd _ rfl rfl rfl (fun h => s_faddr_box rfl (kn rfl) off_26_1) (Walk.gd _ rfl rfl rfl (fun h => s_load1_box rfl (kn_opt rfl h) rfl rfl one_23) (Walk.gd _ rfl rfl rfl (fun h => s_len rfl (kn_opt rfl h) sle_23) (Walk.gd _ rfl rfl rfl (fun h => s_faddr_box rfl (kn rfl) off_26_2) (Walk.gd _ rfl rfl rfl (fun h => s_load1_box rfl (kn_opt rfl h) rfl rfl one_24) (Walk.gd _ rfl rfl rfl (fun h => s_len rfl (kn_opt rfl h) sle_24) (Walk.gd _ rfl rfl rfl (fun h => s_bin rfl (kn_opt rfl h) (kn_opt rfl h) (v_add64 (by first | omega | (dsimp only; omega) | omega))) (Walk.gd _ rfl rfl rfl (fun h => s_bin rfl (kn_opt rfl h) (kn rfl) v_eql) (w_op rfl rfl rfl (s_and rfl (kn rfl) (fun hb => kn_opt rfl hb)) (w_as rfl rfl rfl rfl rfl .nil))))))))))))) ?_
 try refine e_fl ?_
 exact e_return rfl rfl (.tmp (kn rfl) (.nil)) (Imp.of_eq rfl) rfl
theorem gaps_ef {gls : List (Nat × List Value)} {A : Nat → Addr} {m : Int} (hg : OfG gls A m) (s : List UInt8) : EF Tryz.prog gls 4 [sP s] (.part (bP true)) := by
 by_cases hs : 1500 < s.length
 ·exact gaps_long hg s hs
 have hs4 : s.length ≤ 4000 := by omega
 obtain ⟨T, b, ea, hT⟩ := lex_total s s.length 0 (by omega)
 by_cases hb : b = 0
 ·subst hb
  have hk := tksOf_ok hs4 hT
  have hk2 := ptk_set hk
  have hof := of_y hg s hs4 T 0 ea hT
  have ha : sAns s T 0 ea = sParse (tksOf s T) := if_pos rfl
  have hpar := EFx.more (par_y (E8A A) (E9A A) ((tksOf s T).map setP) hk2) hg.sub
  have hbl := sFile_blind (zT_set (tksOf s T))
  rw [ha] at hof
  cases hf : sFile (tksOf s T) with
  | ok f =>
   rw [sParse_fil hf] at hof
   rw [hf] at hbl
   cases hf2 : sFile ((tksOf s T).map setP) with
   | error e => rw [hf2] at hbl; cases hbl
   | ok g =>
    rw [hf2] at hbl hpar
    have hfl : flatFil g = flatFil f := by
     simp only [emap] at hbl
     injection hbl
    refine gaps_core hg s hs4 T ea hT f g (sFile_fine hk.len hf) (sFile_fine hk2.len hf2) hfl.symm nilP nilP true nil_yes nil_yes hof ?_
    refine hpar.mono fun y hy => ?_
    rcases hy with ⟨a, c, h, _⟩ | ⟨f', h, hy⟩
    ·cases h
    ·cases h
     exact hy
  | error e =>
   obtain ⟨a, c⟩ := e
   obtain ⟨hp, hc⟩ := sParse_err hf
   rw [hp] at hof
   rw [hf] at hbl
   cases hf2 : sFile ((tksOf s T).map setP) with
   | ok g => rw [hf2] at hbl; cases hbl
   | error e2 =>
    rw [hf2] at hpar
    have e1 : progY A (fil0, c, (tkAt (tksOf s T) a).2.1, (tkAt (tksOf s T) a).2.2) = .tup [FQ fil0, fltR A (tkAt (tksOf s T) a).2.1 (tkAt (tksOf s T) a).2.2 c] := by
     have : ¬ c = 0 := by omega
     simp only [progY, if_neg this]
    rw [e1] at hof
    refine gaps_core hg s hs4 T ea hT fil0 fil0 fil0_fine fil0_fine rfl _ (fltP ((tksOf s T).map setP) e2.1 (erv (E8A A) (E9A A) e2.2)) false (nil_ifc _ _) (nil_ifc _ _) hof ?_
    refine EFx.imp hpar fun y hy => ?_
    rcases hy with ⟨a', c', h, hy⟩ | ⟨f', h, _⟩
    ·cases h
     subst hy
     exact file_imp (f := fil0) rfl (DImp.nil 9) (DImp.nil 4)
    ·cases h
 ·exact gaps_bad hg s hs4 T b ea hb hT
theorem gaps_any (w : World) (A : Nat → Addr) (m : Int) (hL : Lx w A m) (hD : w.cell? ⟨8, 0, none⟩ = some (errV A 7)) (s : List UInt8) : Calls Tryz.prog 4 #[.string (str s)] w fun e w' => e = .returned (.bool true) ∧ Below w.heap.size w w' := by
 have hG : GlOK (glA A m) w := fun g cs hg => by
  have key : ∀ {g : Nat} {v : Value}, w.cell? ⟨g, 0, none⟩ = some v → g < w.heap.size ∧ ∀ (j : Nat) u, [v][j]? = some u → w.cell? ⟨g, j, none⟩ = some u := fun {g v} h => ⟨World.block_lt_of_cell? w ⟨g, 0, none⟩ h, fun j u hu => by
   cases j with
   | zero => cases hu; exact h
   | succ j => cases hu⟩
  simp only [glA, List.mem_cons, List.not_mem_nil, or_false, Prod.mk.injEq] at hg
  rcases hg with ⟨rfl, rfl⟩ | ⟨rfl, rfl⟩ | ⟨rfl, rfl⟩ | ⟨rfl, rfl⟩ | ⟨rfl, rfl⟩
  ·exact key hL.range
  ·exact key hL.long
  ·exact key hD
  ·exact key hL.form
  ·exact key hL.max
 refine (gaps_ef (glA_of A m) s w (fun _ => False) [.string (str s)] (fun g h => h.elim) hG ⟨.cell _, trivial⟩).mono ?_
 rintro e w' ⟨v, y, rfl, rfl, hb, hv⟩
 have hv1 : Lies w' _ (.cell (.bool true)) v := hv (fun _ => 0) (fun _ => undef)
 exact ⟨by rw [hv1.cell_eq], hb⟩
end Go.Proofs.YtfcjeciepadmeaaGreatDoor
