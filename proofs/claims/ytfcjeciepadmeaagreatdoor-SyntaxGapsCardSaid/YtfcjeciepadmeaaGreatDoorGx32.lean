/- Part 32 of what the last text of this claim is proved by: walks over the program, and the math behind them. Conditions: as each theorem says. -/
import Derived.Test.YtfcjeciepadmeaaGreatDoorGx31
import Derived.Test.YtfcjeciepadmeaaGreatDoorProg
namespace Go.Proofs.YtfcjeciepadmeaaGreatDoor
open Go.RowKit
theorem EF.any {f : FuncId} {ps : List Part} {y : IV} {gls : List (Nat × List Value)} (h : EF Tryz.prog [] f ps y) : EF Tryz.prog gls f ps y := EFx.more h fun x hx => (by cases hx)
set_option maxRecDepth 100000 in
theorem neqFldS (f g : Fld) : BinV Tryz.prog .neq 56 (.agg f.cells.toArray) (.agg g.cells.toArray) (.bool (!cdec (f.cells = g.cells))) :=
 v_stneq (by kernel_rfl) (by kernel_rfl) (by kernel_rfl) (flat_of (ks := [true, true, true, true, false, false, false, false, false, false]) (by kernel_rfl) (.str _ _ (.str _ _ (.str _ _ (.str _ _ (.int _ _ _ (.int _ _ _ (.int _ _ _ (.int _ _ _ (.int _ _ _ (.int _ _ _ .nil)))))))))))
set_option maxRecDepth 100000 in
theorem neqValS (f g : Val) : BinV Tryz.prog .neq 118 (.agg f.cells.toArray) (.agg g.cells.toArray) (.bool (!cdec (f.cells = g.cells))) :=
 v_stneq (by kernel_rfl) (by kernel_rfl) (by kernel_rfl) (flat_of (ks := [true, false, false, false]) (by kernel_rfl) (.str _ _ (.int _ _ _ (.int _ _ _ (.int _ _ _ .nil)))))
set_option maxRecDepth 100000 in
theorem neqRngS (f g : Int × Int) : BinV Tryz.prog .neq 117 (.agg (rngCells f).toArray) (.agg (rngCells g).toArray) (.bool (!cdec (rngCells f = rngCells g))) :=
 v_stneq (by kernel_rfl) (by kernel_rfl) (by kernel_rfl) (flat_of (ks := [false, false]) (by kernel_rfl) (.int _ _ _ (.int _ _ _ .nil)))
set_option maxRecDepth 100000 in
theorem eqFld_ef (a b : List Fld) (ha : a.length ≤ 100000000000) : EF Tryz.prog [] 52 [.one (.row 10 a.length (a.flatMap Fld.dats)), .one (.row 10 b.length (b.flatMap Fld.dats))] (.part (bP (cdec (a = b)))) := by
 refine ef_enter 26 Tryz.func52 rfl rfl rfl fun w D => ?_
 try refine e_fl ?_
 refine e_plain (w_as rfl rfl rfl rfl rfl .nil) ?_
 try refine e_fl ?_
 refine e_plain (w_mv rfl rfl rfl rfl rfl (w_op rfl rfl rfl (s_len rfl (kn rfl) sle_48) (w_mv rfl rfl rfl rfl rfl (w_op rfl rfl rfl (s_len rfl (kn rfl) sle_48) (w_op rfl rfl rfl (s_bin rfl (kn rfl) (kn rfl) v_neq) .nil))))) ?_
 try refine e_fl ?_
 refine e_cond rfl (fun h => ?_) (fun h => ?_)
 ·have hne : ¬ a = b := fun e => by subst e; simp at h
  try refine e_fl ?_
  refine e_plain (w_as rfl rfl rfl rfl rfl .nil) ?_
  try refine e_fl ?_
  exact e_return rfl rfl (.tmp (kn rfl) (.nil)) (Imp.of_eq (by rw [cdec_no hne]; rfl)) rfl
 have hl : a.length = b.length := by
  have : (a.length : Int) = (b.length : Int) := by simpa using h
  omega
 try refine e_fl ?_
 refine e_plain (w_mv rfl rfl rfl rfl rfl (w_op rfl rfl rfl (s_len rfl (kn rfl) sle_48) (w_mv rfl rfl rfl rfl rfl .nil))) ?_
 try refine e_fl ?_
 refine e_loop (ι := { k : Nat // k ≤ a.length ∧ a.take k = b.take k })
  (fun k => [(0, .part (.one (.row 10 a.length (a.flatMap Fld.dats)))), (1, .part (.one (.row 10 b.length (b.flatMap Fld.dats)))), (12, .is (.int .i64 (a.length : Int))), (13, .is (.int .i64 (k.1 : Int)))])
  (fun _ => []) (fun _ => []) (fun k => a.length - k.1) ⟨0, by omega, by simp⟩
  (fun K => e_sub ⟨s_t, s_t, s_t, s_t, trivial⟩ trivial trivial) ?_
 rintro ⟨k, hk, hw⟩
 dsimp only at hk hw ⊢
 try refine e_fl ?_
 refine e_plain (w_op rfl rfl rfl (s_bin rfl (kn rfl) (kn rfl) v_lss) .nil) ?_
 try refine e_fl ?_
 refine e_cond rfl (fun h => ?_) (fun h => ?_)
 ·have hlt : k < a.length := by have := of_decide_eq_true h; omega
  obtain ⟨x, hx⟩ : ∃ x, a[k]? = some x := ⟨_, List.getElem?_eq_getElem hlt⟩
  obtain ⟨y, hy⟩ : ∃ y, b[k]? = some y := ⟨_, List.getElem?_eq_getElem (by omega)⟩
  try refine e_fl ?_
  refine e_plain (w_mv rfl rfl rfl rfl rfl (w_as rfl rfl rfl rfl rfl .nil)) ?_
  try refine e_fl ?_
  refine e_draw mixed (by kernel_rfl) (w_mv rfl rfl rfl rfl rfl (w_mv rfl rfl rfl rfl rfl (w_op rfl rfl rfl (s_index rfl (kn rfl) (kn rfl) (by omega) hx Fld.dats_len sle_48 esz_48 rfl) (w_op rfl rfl rfl (s_loadn_ref rfl (kn rfl) agg_56 sz_56) (w_mv rfl rfl rfl rfl rfl (w_mv rfl rfl rfl rfl rfl (w_op rfl rfl rfl (s_index rfl (kn rfl) (kn rfl) (by omega) hy Fld.dats_len sle_48 esz_48 rfl) (w_op rfl rfl rfl (s_loadn_ref rfl (kn rfl) agg_56 sz_56) (w_op rfl rfl rfl (s_binm (cs := x.cells) (ds := y.cells) rfl (kn rfl) (kn rfl) (neqFldS x y)) .nil))))))))) ?_
  try refine e_fl ?_
  refine e_cond rfl (fun h1 => ?_) (fun h1 => ?_)
  ·have hne : ¬ a = b := fun e => by
    subst e
    rw [hx] at hy
    obtain rfl := Option.some.inj hy
    first
     | (simp at h1; done)
     | (rw [cdec_yes rfl] at h1; cases h1)
   try refine e_fl ?_
   refine e_plain (w_as rfl rfl rfl rfl rfl .nil) ?_
   try refine e_fl ?_
   exact e_return rfl rfl (.tmp (kn rfl) (.nil)) (Imp.of_eq (by rw [cdec_no hne]; rfl)) rfl
  obtain rfl : x = y := Fld.cells_inj (cdec_neg h1)
  try refine e_fl ?_
  refine e_plain (w_op rfl rfl rfl (s_bin rfl (kn rfl) (kn rfl) (v_add64 (by first | omega | (dsimp only; omega) | omega))) (w_mv rfl rfl rfl rfl rfl .nil)) ?_
  try refine e_fl ?_
  refine e_again ⟨k + 1, by omega, take_more hw hx hy⟩ (by dsimp only; omega) (fun K => e_sub ⟨s_t, s_t, s_t, s_t, trivial⟩ trivial trivial)
 ·have hge : a.length ≤ k := by have := of_decide_eq_false h; omega
  have he := take_all hw hge (by omega)
  try refine e_fl ?_
  refine e_plain (w_as rfl rfl rfl rfl rfl .nil) ?_
  try refine e_fl ?_
  exact e_return rfl rfl (.tmp (kn rfl) (.nil)) (Imp.of_eq (by rw [cdec_yes he]; rfl)) rfl
set_option maxRecDepth 100000 in
theorem eqTxt_ef (a b : List (List UInt8)) (ha : a.length ≤ 100000000000) : EF Tryz.prog [] 53 [.one (.row 1 a.length (a.flatMap textDats)), .one (.row 1 b.length (b.flatMap textDats))] (.part (bP (cdec (a = b)))) := by
 refine ef_enter 26 Tryz.func53 rfl rfl rfl fun w D => ?_
 try refine e_fl ?_
 refine e_plain (w_as rfl rfl rfl rfl rfl .nil) ?_
 try refine e_fl ?_
 refine e_plain (w_mv rfl rfl rfl rfl rfl (w_op rfl rfl rfl (s_len rfl (kn rfl) sle_49) (w_mv rfl rfl rfl rfl rfl (w_op rfl rfl rfl (s_len rfl (kn rfl) sle_49) (w_op rfl rfl rfl (s_bin rfl (kn rfl) (kn rfl) v_neq) .nil))))) ?_
 try refine e_fl ?_
 refine e_cond rfl (fun h => ?_) (fun h => ?_)
 ·have hne : ¬ a = b := fun e => by subst e; simp at h
  try refine e_fl ?_
  refine e_plain (w_as rfl rfl rfl rfl rfl .nil) ?_
  try refine e_fl ?_
  exact e_return rfl rfl (.tmp (kn rfl) (.nil)) (Imp.of_eq (by rw [cdec_no hne]; rfl)) rfl
 have hl : a.length = b.length := by
  have : (a.length : Int) = (b.length : Int) := by simpa using h
  omega
 try refine e_fl ?_
 refine e_plain (w_mv rfl rfl rfl rfl rfl (w_op rfl rfl rfl (s_len rfl (kn rfl) sle_49) (w_mv rfl rfl rfl rfl rfl .nil))) ?_
 try refine e_fl ?_
 refine e_loop (ι := { k : Nat // k ≤ a.length ∧ a.take k = b.take k })
  (fun k => [(0, .part (.one (.row 1 a.length (a.flatMap textDats)))), (1, .part (.one (.row 1 b.length (b.flatMap textDats)))), (12, .is (.int .i64 (a.length : Int))), (13, .is (.int .i64 (k.1 : Int)))])
  (fun _ => []) (fun _ => []) (fun k => a.length - k.1) ⟨0, by omega, by simp⟩
  (fun K => e_sub ⟨s_t, s_t, s_t, s_t, trivial⟩ trivial trivial) ?_
 rintro ⟨k, hk, hw⟩
 dsimp only at hk hw ⊢
 try refine e_fl ?_
 refine e_plain (w_op rfl rfl rfl (s_bin rfl (kn rfl) (kn rfl) v_lss) .nil) ?_
 try refine e_fl ?_
 refine e_cond rfl (fun h => ?_) (fun h => ?_)
 ·have hlt : k < a.length := by have := of_decide_eq_true h; omega
  obtain ⟨x, hx⟩ : ∃ x, a[k]? = some x := ⟨_, List.getElem?_eq_getElem hlt⟩
  obtain ⟨y, hy⟩ : ∃ y, b[k]? = some y := ⟨_, List.getElem?_eq_getElem (by omega)⟩
  try refine e_fl ?_
  refine e_plain (w_mv rfl rfl rfl rfl rfl (w_as rfl rfl rfl rfl rfl .nil)) ?_
  try refine e_fl ?_
  refine e_draw mixed (by kernel_rfl) (w_mv rfl rfl rfl rfl rfl (w_mv rfl rfl rfl rfl rfl (w_op rfl rfl rfl (s_index rfl (kn rfl) (kn rfl) (by omega) hx textDats_len sle_49 esz_49 rfl) (w_op rfl rfl rfl (s_load1_ref rfl (kn rfl) one_9) (w_mv rfl rfl rfl rfl rfl (w_mv rfl rfl rfl rfl rfl (w_op rfl rfl rfl (s_index rfl (kn rfl) (kn rfl) (by omega) hy textDats_len sle_49 esz_49 rfl) (w_op rfl rfl rfl (s_load1_ref rfl (kn rfl) one_9) (w_op rfl rfl rfl (s_bin rfl (kn rfl) (kn rfl) (v_sneq)) .nil))))))))) ?_
  try refine e_fl ?_
  refine e_cond rfl (fun h1 => ?_) (fun h1 => ?_)
  ·have hne : ¬ a = b := fun e => by
    subst e
    rw [hx] at hy
    obtain rfl := Option.some.inj hy
    first
     | (simp at h1; done)
     | (rw [cdec_yes rfl] at h1; cases h1)
   try refine e_fl ?_
   refine e_plain (w_as rfl rfl rfl rfl rfl .nil) ?_
   try refine e_fl ?_
   exact e_return rfl rfl (.tmp (kn rfl) (.nil)) (Imp.of_eq (by rw [cdec_no hne]; rfl)) rfl
  obtain rfl : x = y := by simpa using h1
  try refine e_fl ?_
  refine e_plain (w_op rfl rfl rfl (s_bin rfl (kn rfl) (kn rfl) (v_add64 (by first | omega | (dsimp only; omega) | omega))) (w_mv rfl rfl rfl rfl rfl .nil)) ?_
  try refine e_fl ?_
  refine e_again ⟨k + 1, by omega, take_more hw hx hy⟩ (by dsimp only; omega) (fun K => e_sub ⟨s_t, s_t, s_t, s_t, trivial⟩ trivial trivial)
 ·have hge : a.length ≤ k := by have := of_decide_eq_false h; omega
  have he := take_all hw hge (by omega)
  try refine e_fl ?_
  refine e_plain (w_as rfl rfl rfl rfl rfl .nil) ?_
  try refine e_fl ?_
  exact e_return rfl rfl (.tmp (kn rfl) (.nil)) (Imp.of_eq (by rw [cdec_yes he]; rfl)) rfl
set_option maxRecDepth 100000 in
theorem eqRng_ef (a b : List (Int × Int)) (ha : a.length ≤ 100000000000) : EF Tryz.prog [] 54 [.one (.row 2 a.length (a.flatMap rangeDats)), .one (.row 2 b.length (b.flatMap rangeDats))] (.part (bP (cdec (a = b)))) := by
 refine ef_enter 26 Tryz.func54 rfl rfl rfl fun w D => ?_
 try refine e_fl ?_
 refine e_plain (w_as rfl rfl rfl rfl rfl .nil) ?_
 try refine e_fl ?_
 refine e_plain (w_mv rfl rfl rfl rfl rfl (w_op rfl rfl rfl (s_len rfl (kn rfl) sle_50) (w_mv rfl rfl rfl rfl rfl (w_op rfl rfl rfl (s_len rfl (kn rfl) sle_50) (w_op rfl rfl rfl (s_bin rfl (kn rfl) (kn rfl) v_neq) .nil))))) ?_
 try refine e_fl ?_
 refine e_cond rfl (fun h => ?_) (fun h => ?_)
 ·have hne : ¬ a = b := fun e => by subst e; simp at h
  try refine e_fl ?_
  refine e_plain (w_as rfl rfl rfl rfl rfl .nil) ?_
  try refine e_fl ?_
  exact e_return rfl rfl (.tmp (kn rfl) (.nil)) (Imp.of_eq (by rw [cdec_no hne]; rfl)) rfl
 have hl : a.length = b.length := by
  have : (a.length : Int) = (b.length : Int) := by simpa using h
  omega
 try refine e_fl ?_
 refine e_plain (w_mv rfl rfl rfl rfl rfl (w_op rfl rfl rfl (s_len rfl (kn rfl) sle_50) (w_mv rfl rfl rfl rfl rfl .nil))) ?_
 try refine e_fl ?_
 refine e_loop (ι := { k : Nat // k ≤ a.length ∧ a.take k = b.take k })
  (fun k => [(0, .part (.one (.row 2 a.length (a.flatMap rangeDats)))), (1, .part (.one (.row 2 b.length (b.flatMap rangeDats)))), (12, .is (.int .i64 (a.length : Int))), (13, .is (.int .i64 (k.1 : Int)))])
  (fun _ => []) (fun _ => []) (fun k => a.length - k.1) ⟨0, by omega, by simp⟩
  (fun K => e_sub ⟨s_t, s_t, s_t, s_t, trivial⟩ trivial trivial) ?_
 rintro ⟨k, hk, hw⟩
 dsimp only at hk hw ⊢
 try refine e_fl ?_
 refine e_plain (w_op rfl rfl rfl (s_bin rfl (kn rfl) (kn rfl) v_lss) .nil) ?_
 try refine e_fl ?_
 refine e_cond rfl (fun h => ?_) (fun h => ?_)
 ·have hlt : k < a.length := by have := of_decide_eq_true h; omega
  obtain ⟨x, hx⟩ : ∃ x, a[k]? = some x := ⟨_, List.getElem?_eq_getElem hlt⟩
  obtain ⟨y, hy⟩ : ∃ y, b[k]? = some y := ⟨_, List.getElem?_eq_getElem (by omega)⟩
  try refine e_fl ?_
  refine e_plain (w_mv rfl rfl rfl rfl rfl (w_as rfl rfl rfl rfl rfl .nil)) ?_
  try refine e_fl ?_
  refine e_draw mixed (by kernel_rfl) (w_mv rfl rfl rfl rfl rfl (w_mv rfl rfl rfl rfl rfl (w_op rfl rfl rfl (s_index rfl (kn rfl) (kn rfl) (by omega) hx rangeDats_len sle_50 esz_50 rfl) (w_op rfl rfl rfl (s_loadn_ref rfl (kn rfl) agg_117 sz_117) (w_mv rfl rfl rfl rfl rfl (w_mv rfl rfl rfl rfl rfl (w_op rfl rfl rfl (s_index rfl (kn rfl) (kn rfl) (by omega) hy rangeDats_len sle_50 esz_50 rfl) (w_op rfl rfl rfl (s_loadn_ref rfl (kn rfl) agg_117 sz_117) (w_op rfl rfl rfl (s_binm (cs := rngCells x) (ds := rngCells y) rfl (kn rfl) (kn rfl) (neqRngS x y)) .nil))))))))) ?_
  try refine e_fl ?_
  refine e_cond rfl (fun h1 => ?_) (fun h1 => ?_)
  ·have hne : ¬ a = b := fun e => by
    subst e
    rw [hx] at hy
    obtain rfl := Option.some.inj hy
    first
     | (simp at h1; done)
     | (rw [cdec_yes rfl] at h1; cases h1)
   try refine e_fl ?_
   refine e_plain (w_as rfl rfl rfl rfl rfl .nil) ?_
   try refine e_fl ?_
   exact e_return rfl rfl (.tmp (kn rfl) (.nil)) (Imp.of_eq (by rw [cdec_no hne]; rfl)) rfl
  obtain rfl : x = y := rngCells_inj (cdec_neg h1)
  try refine e_fl ?_
  refine e_plain (w_op rfl rfl rfl (s_bin rfl (kn rfl) (kn rfl) (v_add64 (by first | omega | (dsimp only; omega) | omega))) (w_mv rfl rfl rfl rfl rfl .nil)) ?_
  try refine e_fl ?_
  refine e_again ⟨k + 1, by omega, take_more hw hx hy⟩ (by dsimp only; omega) (fun K => e_sub ⟨s_t, s_t, s_t, s_t, trivial⟩ trivial trivial)
 ·have hge : a.length ≤ k := by have := of_decide_eq_false h; omega
  have he := take_all hw hge (by omega)
  try refine e_fl ?_
  refine e_plain (w_as rfl rfl rfl rfl rfl .nil) ?_
  try refine e_fl ?_
  exact e_return rfl rfl (.tmp (kn rfl) (.nil)) (Imp.of_eq (by rw [cdec_yes he]; rfl)) rfl
set_option maxRecDepth 100000 in
theorem eqVal_ef (a b : List Val) (ha : a.length ≤ 100000000000) : EF Tryz.prog [] 55 [.one (.row 4 a.length (a.flatMap Val.dats)), .one (.row 4 b.length (b.flatMap Val.dats))] (.part (bP (cdec (a = b)))) := by
 refine ef_enter 26 Tryz.func55 rfl rfl rfl fun w D => ?_
 try refine e_fl ?_
 refine e_plain (w_as rfl rfl rfl rfl rfl .nil) ?_
 try refine e_fl ?_
 refine e_plain (w_mv rfl rfl rfl rfl rfl (w_op rfl rfl rfl (s_len rfl (kn rfl) sle_74) (w_mv rfl rfl rfl rfl rfl (w_op rfl rfl rfl (s_len rfl (kn rfl) sle_74) (w_op rfl rfl rfl (s_bin rfl (kn rfl) (kn rfl) v_neq) .nil))))) ?_
 try refine e_fl ?_
 refine e_cond rfl (fun h => ?_) (fun h => ?_)
 ·have hne : ¬ a = b := fun e => by subst e; simp at h
  try refine e_fl ?_
  refine e_plain (w_as rfl rfl rfl rfl rfl .nil) ?_
  try refine e_fl ?_
  exact e_return rfl rfl (.tmp (kn rfl) (.nil)) (Imp.of_eq (by rw [cdec_no hne]; rfl)) rfl
 have hl : a.length = b.length := by
  have : (a.length : Int) = (b.length : Int) := by simpa using h
  omega
 try refine e_fl ?_
 refine e_plain (w_mv rfl rfl rfl rfl rfl (w_op rfl rfl rfl (s_len rfl (kn rfl) sle_74) (w_mv rfl rfl rfl rfl rfl .nil))) ?_
 try refine e_fl ?_
 refine e_loop (ι := { k : Nat // k ≤ a.length ∧ a.take k = b.take k })
  (fun k => [(0, .part (.one (.row 4 a.length (a.flatMap Val.dats)))), (1, .part (.one (.row 4 b.length (b.flatMap Val.dats)))), (12, .is (.int .i64 (a.length : Int))), (13, .is (.int .i64 (k.1 : Int)))])
  (fun _ => []) (fun _ => []) (fun k => a.length - k.1) ⟨0, by omega, by simp⟩
  (fun K => e_sub ⟨s_t, s_t, s_t, s_t, trivial⟩ trivial trivial) ?_
 rintro ⟨k, hk, hw⟩
 dsimp only at hk hw ⊢
 try refine e_fl ?_
 refine e_plain (w_op rfl rfl rfl (s_bin rfl (kn rfl) (kn rfl) v_lss) .nil) ?_
 try refine e_fl ?_
 refine e_cond rfl (fun h => ?_) (fun h => ?_)
 ·have hlt : k < a.length := by have := of_decide_eq_true h; omega
  obtain ⟨x, hx⟩ : ∃ x, a[k]? = some x := ⟨_, List.getElem?_eq_getElem hlt⟩
  obtain ⟨y, hy⟩ : ∃ y, b[k]? = some y := ⟨_, List.getElem?_eq_getElem (by omega)⟩
  try refine e_fl ?_
  refine e_plain (w_mv rfl rfl rfl rfl rfl (w_as rfl rfl rfl rfl rfl .nil)) ?_
  try refine e_fl ?_
  refine e_draw mixed (by kernel_rfl) (w_mv rfl rfl rfl rfl rfl (w_mv rfl rfl rfl rfl rfl (w_op rfl rfl rfl (s_index rfl (kn rfl) (kn rfl) (by omega) hx Val.dats_len sle_74 esz_74 rfl) (w_op rfl rfl rfl (s_loadn_ref rfl (kn rfl) agg_118 sz_118) (w_mv rfl rfl rfl rfl rfl (w_mv rfl rfl rfl rfl rfl (w_op rfl rfl rfl (s_index rfl (kn rfl) (kn rfl) (by omega) hy Val.dats_len sle_74 esz_74 rfl) (w_op rfl rfl rfl (s_loadn_ref rfl (kn rfl) agg_118 sz_118) (w_op rfl rfl rfl (s_binm (cs := x.cells) (ds := y.cells) rfl (kn rfl) (kn rfl) (neqValS x y)) .nil))))))))) ?_
  try refine e_fl ?_
  refine e_cond rfl (fun h1 => ?_) (fun h1 => ?_)
  ·have hne : ¬ a = b := fun e => by
    subst e
    rw [hx] at hy
    obtain rfl := Option.some.inj hy
    first
     | (simp at h1; done)
     | (rw [cdec_yes rfl] at h1; cases h1)
   try refine e_fl ?_
   refine e_plain (w_as rfl rfl rfl rfl rfl .nil) ?_
   try refine e_fl ?_
   exact e_return rfl rfl (.tmp (kn rfl) (.nil)) (Imp.of_eq (by rw [cdec_no hne]; rfl)) rfl
  obtain rfl : x = y := Val.cells_inj (cdec_neg h1)
  try refine e_fl ?_
  refine e_plain (w_op rfl rfl rfl (s_bin rfl (kn rfl) (kn rfl) (v_add64 (by first | omega | (dsimp only; omega) | omega))) (w_mv rfl rfl rfl rfl rfl .nil)) ?_
  try refine e_fl ?_
  refine e_again ⟨k + 1, by omega, take_more hw hx hy⟩ (by dsimp only; omega) (fun K => e_sub ⟨s_t, s_t, s_t, s_t, trivial⟩ trivial trivial)
 ·have hge : a.length ≤ k := by have := of_decide_eq_false h; omega
  have he := take_all hw hge (by omega)
  try refine e_fl ?_
  refine e_plain (w_as rfl rfl rfl rfl rfl .nil) ?_
  try refine e_fl ?_
  exact e_return rfl rfl (.tmp (kn rfl) (.nil)) (Imp.of_eq (by rw [cdec_yes he]; rfl)) rfl
set_option maxRecDepth 100000 in
theorem sameEnumS_ef (a b : Enm) (ha : a.fine) : EF Tryz.prog [] 33 [.many a.dats, .many b.dats] (.part (bP (cdec (a = b)))) := by
 refine ef_enter 31 Tryz.func33 rfl rfl rfl fun w D => ?_
 try refine e_fl ?_
 unfold Enm.fine at ha
 refine e_list ?_
 refine e_box 2 rfl rfl rfl rfl (kn rfl) rfl rfl rfl rfl ?_
 refine e_box 3 rfl rfl rfl rfl (kn rfl) rfl rfl rfl rfl ?_
 refine l_as ?_
 refine e_nil ?_
 try refine e_fl ?_
 refine e_plain (w_op rfl rfl rfl (s_faddr_box rfl (kn rfl) off_76_0) (w_op rfl rfl rfl (s_load1_box rfl (kn rfl) rfl rfl one_9) (w_op rfl rfl rfl (s_faddr_box rfl (kn rfl) off_76_0) (w_op rfl rfl rfl (s_load1_box rfl (kn rfl) rfl rfl one_9) (w_op rfl rfl rfl (s_bin rfl (kn rfl) (kn rfl) (v_seql)) (w_mv rfl rfl rfl rfl rfl (Walk.gd _ rfl rfl rfl (fun h => s_faddr_box rfl (kn rfl) off_76_2) (Walk.gd _ rfl rfl rfl (fun h => s_load1_box rfl (kn_opt rfl h) rfl rfl one_3) (Walk.gd _ rfl rfl rfl (fun h => s_faddr_box rfl (kn rfl) off_76_2) (Walk.gd _ rfl rfl rfl (fun h => s_load1_box rfl (kn_opt rfl h) rfl rfl one_3) (Walk.gd _ rfl rfl rfl (fun h => s_bin rfl (kn_opt rfl h) (kn_opt rfl h) v_eql) (w_op rfl rfl rfl (s_and rfl (kn rfl) (fun hb => kn_opt rfl hb)) (w_mv rfl rfl rfl rfl rfl (Walk.gd _ rfl rfl rfl (fun h => s_faddr_box rfl (kn rfl) off_76_3) (Walk.gd _ rfl rfl rfl (fun h => s_load1_box rfl (kn_opt rfl h) rfl rfl one_3) (Walk.gd _ rfl rfl rfl (fun h => s_faddr_box rfl (kn rfl) off_76_3) (Walk.gd _ rfl rfl rfl (fun h => s_load1_box rfl (kn_opt rfl h) rfl rfl one_3) (Walk.gd _ rfl rfl rfl (fun h => s_bin rfl (kn_opt rfl h) (kn_opt rfl h) v_eql) (w_op rfl rfl rfl (s_and rfl (kn rfl) (fun hb => kn_opt rfl hb)) (w_mv rfl rfl rfl rfl rfl (Walk.gd _ rfl rfl rfl (fun h => s_faddr_box rfl (kn rfl) off_76_1) (Walk.gd _ rfl rfl rfl (fun h => s_load1_box rfl (kn_opt rfl h) rfl rfl one_74) (Walk.gd _ rfl rfl rfl (fun h => s_faddr_box rfl (kn rfl) off_76_1) (Walk.gd _ rfl rfl rfl (fun h => s_load1_box rfl (kn_opt rfl h) rfl rfl one_74) (Walk.gd _ rfl rfl rfl (fun h => s_call rfl (by kernel_rfl) (eqVal_ef a.vals b.vals ha) ⟨(kn_opt rfl h), ⟨(kn_opt rfl h), trivial⟩⟩) (w_op rfl rfl rfl (s_and rfl (kn rfl) (fun hb => kn_opt rfl hb)) (w_as rfl rfl rfl rfl rfl .nil))))))))))))))))))))))))))) ?_
 try refine e_fl ?_
 have e : (decide (a.name = b.name) && decide (a.line = b.line) && decide (a.col = b.col) && cdec (a.vals = b.vals)) = cdec (a = b) := cdec_eq (by
  obtain ⟨a1, a2, a3, a4⟩ := a
  obtain ⟨b1, b2, b3, b4⟩ := b
  simp only [Bool.and_eq_true, decide_eq_true_eq, cdec_true, Enm.mk.injEq]
  exact ⟨fun h => ⟨h.1.1.1, h.2, h.1.1.2, h.1.2⟩, fun h => ⟨⟨⟨h.1, h.2.2.1⟩, h.2.2.2⟩, h.2.1⟩⟩)
 exact e_return rfl rfl (.tmp (kn rfl) (.nil)) (Imp.of_eq (by rw [← e]; rfl)) rfl
end Go.Proofs.YtfcjeciepadmeaaGreatDoor
