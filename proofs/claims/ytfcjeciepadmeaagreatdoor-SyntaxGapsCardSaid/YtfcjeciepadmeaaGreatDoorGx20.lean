/- Part 20 of what the last text of this claim is proved by: walks over the program, and the math behind them. Conditions: as each theorem says. -/
import Derived.Test.YtfcjeciepadmeaaGreatDoorGx19
import Derived.Test.YtfcjeciepadmeaaGreatDoorProg
namespace Go.Proofs.YtfcjeciepadmeaaGreatDoor
open Go.RowKit
theorem str_inj {a b : List UInt8} (h : str a = str b) : a = b := by
 have := congrArg ByteArray.toList h
 rwa [str_toList, str_toList] at this
theorem vstr_inj {a b : List UInt8} (h : Value.string (str a) = Value.string (str b)) : a = b := by
 injection h with h
 exact str_inj h
theorem vint_inj {k : IntKind} {a b : Int} (h : Value.int k a = Value.int k b) : a = b := by
 injection h
theorem Fld.cells_inj {f g : Fld} (h : f.cells = g.cells) : f = g := by
 obtain ⟨a1, a2, a3, a4, a5, a6, a7, a8, a9, a10⟩ := f
 obtain ⟨b1, b2, b3, b4, b5, b6, b7, b8, b9, b10⟩ := g
 simp only [Fld.cells, List.cons.injEq] at h
 obtain ⟨h1, h2, h3, h4, h5, h6, h7, h8, h9, h10, _⟩ := h
 rw [vstr_inj h1, vstr_inj h2, vstr_inj h3, vstr_inj h4, vint_inj h5, vint_inj h6, vint_inj h7, vint_inj h8, vint_inj h9, vint_inj h10]
theorem Val.cells_inj {f g : Val} (h : f.cells = g.cells) : f = g := by
 obtain ⟨a1, a2, a3, a4⟩ := f
 obtain ⟨b1, b2, b3, b4⟩ := g
 simp only [Val.cells, List.cons.injEq] at h
 obtain ⟨h1, h2, h3, h4, _⟩ := h
 rw [vstr_inj h1, vint_inj h2, vint_inj h3, vint_inj h4]
def rngCells (x : Int × Int) : List Value := [.int .i64 x.1, .int .i64 x.2]
theorem rngCells_inj {x y : Int × Int} (h : rngCells x = rngCells y) : x = y := by
 obtain ⟨a1, a2⟩ := x
 obtain ⟨b1, b2⟩ := y
 simp only [rngCells, List.cons.injEq] at h
 obtain ⟨h1, h2, _⟩ := h
 rw [vint_inj h1, vint_inj h2]
set_option maxRecDepth 100000 in
theorem neqFld (f g : Fld) : BinV Tryz.prog .neq 112 (.agg f.cells.toArray) (.agg g.cells.toArray) (.bool (!cdec (f.cells = g.cells))) :=
 v_stneq (by kernel_rfl) (by kernel_rfl) (by kernel_rfl) (flat_of (ks := [true, true, true, true, false, false, false, false, false, false]) (by kernel_rfl) (.str _ _ (.str _ _ (.str _ _ (.str _ _ (.int _ _ _ (.int _ _ _ (.int _ _ _ (.int _ _ _ (.int _ _ _ (.int _ _ _ .nil)))))))))))
set_option maxRecDepth 100000 in
theorem neqVal (f g : Val) : BinV Tryz.prog .neq 116 (.agg f.cells.toArray) (.agg g.cells.toArray) (.bool (!cdec (f.cells = g.cells))) :=
 v_stneq (by kernel_rfl) (by kernel_rfl) (by kernel_rfl) (flat_of (ks := [true, false, false, false]) (by kernel_rfl) (.str _ _ (.int _ _ _ (.int _ _ _ (.int _ _ _ .nil)))))
set_option maxRecDepth 100000 in
theorem neqRng (f g : Int × Int) : BinV Tryz.prog .neq 114 (.agg (rngCells f).toArray) (.agg (rngCells g).toArray) (.bool (!cdec (rngCells f = rngCells g))) :=
 v_stneq (by kernel_rfl) (by kernel_rfl) (by kernel_rfl) (flat_of (ks := [false, false]) (by kernel_rfl) (.int _ _ _ (.int _ _ _ .nil)))
theorem take_more {α : Type} {l m : List α} {k : Nat} {x : α} (h : l.take k = m.take k) (hx : l[k]? = some x) (hy : m[k]? = some x) : l.take (k + 1) = m.take (k + 1) := by
 rw [List.take_add_one, List.take_add_one, h, hx, hy]
theorem take_all {α : Type} {l m : List α} {k : Nat} (h : l.take k = m.take k) (hl : l.length ≤ k) (hm : m.length ≤ k) : l = m := by
 rwa [List.take_of_length_le hl, List.take_of_length_le hm] at h
theorem cdec_no {p : Prop} (h : ¬ p) : cdec p = false := by
 cases h1 : cdec p
 ·rfl
 ·exact absurd (cdec_true.1 h1) h
theorem cdec_yes {p : Prop} (h : p) : cdec p = true := cdec_true.2 h
set_option maxRecDepth 100000 in
theorem sameTexts_ef (a b : List (List UInt8)) (ha : a.length ≤ 100000000000) : EF Tryz.prog [] 44 [txsP a, txsP b] (.part (bP (cdec (a = b)))) := by
 refine ef_enter 26 Tryz.func44 rfl rfl rfl fun w D => ?_
 try refine e_fl ?_
 refine e_plain (w_as rfl rfl rfl rfl rfl .nil) ?_
 try refine e_fl ?_
 refine e_plain (w_mv rfl rfl rfl rfl rfl (w_op rfl rfl rfl (s_len rfl (kn rfl) sle_49) (w_mv rfl rfl rfl rfl rfl (w_op rfl rfl rfl (s_len rfl (kn rfl) sle_49) (w_op rfl rfl rfl (s_bin rfl (kn rfl) (kn rfl) v_neq) .nil))))) ?_
 try refine e_fl ?_
 refine e_cond rfl (fun h => ?_) (fun h => ?_)
 ·have hne : ¬ a = b := fun e => by subst e; simp at h
  try refine e_fl ?_
  refine e_plain (w_as rfl rfl rfl rfl rfl .nil) ?_
  try refine e_fl ?_
  exact e_return rfl rfl (.tmp (kn rfl) (.nil)) (Imp.of_eq (by rw [cdec_no hne]; rfl)) rfl
 have hl : a.length = b.length := by
  have : (a.length : Int) = (b.length : Int) := by simpa using h
  omega
 try refine e_fl ?_
 refine e_plain (w_mv rfl rfl rfl rfl rfl (w_op rfl rfl rfl (s_len rfl (kn rfl) sle_49) (w_mv rfl rfl rfl rfl rfl .nil))) ?_
 try refine e_fl ?_
 refine e_loop (ι := { k : Nat // k ≤ a.length ∧ a.take k = b.take k })
  (fun k => [(0, .part (txsP a)), (1, .part (txsP b)), (12, .is (.int .i64 (a.length : Int))), (13, .is (.int .i64 (k.1 : Int)))])
  (fun _ => []) (fun _ => []) (fun k => a.length - k.1) ⟨0, by omega, by simp⟩
  (fun K => e_sub ⟨s_t, s_t, s_t, s_t, trivial⟩ trivial trivial) ?_
 rintro ⟨k, hk, hw⟩
 dsimp only at hk hw ⊢
 try refine e_fl ?_
 refine e_plain (w_op rfl rfl rfl (s_bin rfl (kn rfl) (kn rfl) v_lss) .nil) ?_
 try refine e_fl ?_
 refine e_cond rfl (fun h => ?_) (fun h => ?_)
 ·have hlt : k < a.length := by have := of_decide_eq_true h; omega
  obtain ⟨x, hx⟩ : ∃ x, a[k]? = some x := ⟨_, List.getElem?_eq_getElem hlt⟩
  obtain ⟨y, hy⟩ : ∃ y, b[k]? = some y := ⟨_, List.getElem?_eq_getElem (by omega)⟩
  try refine e_fl ?_
  refine e_plain (w_mv rfl rfl rfl rfl rfl (w_as rfl rfl rfl rfl rfl .nil)) ?_
  try refine e_fl ?_
  refine e_draw mixed (by kernel_rfl) (w_mv rfl rfl rfl rfl rfl (w_mv rfl rfl rfl rfl rfl (w_op rfl rfl rfl (s_index rfl (kn rfl) (kn rfl) (by omega) hx textDats_len sle_49 esz_49 rfl) (w_op rfl rfl rfl (s_load1_ref rfl (kn rfl) one_9) (w_mv rfl rfl rfl rfl rfl (w_mv rfl rfl rfl rfl rfl (w_op rfl rfl rfl (s_index rfl (kn rfl) (kn rfl) (by omega) hy textDats_len sle_49 esz_49 rfl) (w_op rfl rfl rfl (s_load1_ref rfl (kn rfl) one_9) (w_op rfl rfl rfl (s_bin rfl (kn rfl) (kn rfl) (v_sneq)) .nil))))))))) ?_
  try refine e_fl ?_
  refine e_cond rfl (fun h1 => ?_) (fun h1 => ?_)
  ·have hne : ¬ a = b := fun e => by
    subst e
    rw [hx] at hy
    obtain rfl := Option.some.inj hy
    simp at h1
   try refine e_fl ?_
   refine e_plain (w_as rfl rfl rfl rfl rfl .nil) ?_
   try refine e_fl ?_
   exact e_return rfl rfl (.tmp (kn rfl) (.nil)) (Imp.of_eq (by rw [cdec_no hne]; rfl)) rfl
  obtain rfl : x = y := by simpa using h1
  try refine e_fl ?_
  refine e_plain (w_op rfl rfl rfl (s_bin rfl (kn rfl) (kn rfl) (v_add64 (by first | omega | (dsimp only; omega) | omega))) (w_mv rfl rfl rfl rfl rfl .nil)) ?_
  try refine e_fl ?_
  refine e_again ⟨k + 1, by omega, take_more hw hx hy⟩ (by dsimp only; omega) (fun K => e_sub ⟨s_t, s_t, s_t, s_t, trivial⟩ trivial trivial)
 ·have hge : a.length ≤ k := by have := of_decide_eq_false h; omega
  have he := take_all hw hge (by omega)
  try refine e_fl ?_
  refine e_plain (w_as rfl rfl rfl rfl rfl .nil) ?_
  try refine e_fl ?_
  exact e_return rfl rfl (.tmp (kn rfl) (.nil)) (Imp.of_eq (by rw [cdec_yes he]; rfl)) rfl
def Enm.fine (e : Enm) : Prop := e.vals.length ≤ 100000000000
mutual
def Msg.fine : Msg → Prop
 | .mk _ f o m e r s _ _ => f.length ≤ 100000000000 ∧ o.length ≤ 100000000000 ∧ m.length ≤ 100000000000 ∧ e.length ≤ 100000000000 ∧ r.length ≤ 100000000000 ∧ s.length ≤ 100000000000 ∧ (∀ x ∈ e, x.fine) ∧ Msg.fines m
def Msg.fines : List Msg → Prop
 | [] => True
 | k :: ks => k.fine ∧ Msg.fines ks
end
theorem Msg.fines_iff : ∀ ms : List Msg, Msg.fines ms ↔ ∀ k ∈ ms, k.fine
 | [] => by simp [Msg.fines]
 | k :: ks => by rw [Msg.fines, Msg.fines_iff ks]; simp
theorem Msg.fine_iff (m : Msg) : m.fine ↔ (m.fields.length ≤ 100000000000 ∧ m.oneofs.length ≤ 100000000000 ∧ m.msgs.length ≤ 100000000000 ∧ m.enums.length ≤ 100000000000 ∧ m.reserved.length ≤ 100000000000 ∧ m.names.length ≤ 100000000000 ∧ (∀ x ∈ m.enums, x.fine) ∧ ∀ k ∈ m.msgs, k.fine) := by
 obtain ⟨nm, fs, os, ms, es, rs, ns, ln, cl⟩ := m
 rw [Msg.fine, Msg.fines_iff]
 rfl
theorem cdec_neg {p : Prop} (h : (!cdec p) = false) : p := cdec_true.1 (by cases hc : cdec p <;> rw [hc] at h <;> first | rfl | cases h)
set_option maxRecDepth 100000 in
theorem sameEnum_ef (a b : Enm) (ha : a.fine) : EF Tryz.prog [] 22 [.many a.dats, .many b.dats] (.part (bP (cdec (a = b)))) := by
 refine ef_enter 52 Tryz.func22 rfl rfl rfl fun w D => ?_
 try refine e_fl ?_
 unfold Enm.fine at ha
 refine e_list ?_
 refine e_box 2 rfl rfl rfl rfl (kn rfl) rfl rfl rfl rfl ?_
 refine e_box 3 rfl rfl rfl rfl (kn rfl) rfl rfl rfl rfl ?_
 refine l_as ?_
 refine e_nil ?_
 try refine e_fl ?_
 refine e_plain (w_op rfl rfl rfl (s_faddr_box rfl (kn rfl) off_72_0) (w_op rfl rfl rfl (s_load1_box rfl (kn rfl) rfl rfl one_9) (w_op rfl rfl rfl (s_faddr_box rfl (kn rfl) off_72_0) (w_op rfl rfl rfl (s_load1_box rfl (kn rfl) rfl rfl one_9) (w_op rfl rfl rfl (s_bin rfl (kn rfl) (kn rfl) (v_sneq)) (w_mv rfl rfl rfl rfl rfl (Walk.gd _ rfl rfl rfl (fun h => s_faddr_box rfl (kn rfl) off_72_2) (Walk.gd _ rfl rfl rfl (fun h => s_load1_box rfl (kn_opt rfl h) rfl rfl one_3) (Walk.gd _ rfl rfl rfl (fun h => s_faddr_box rfl (kn rfl) off_72_2) (Walk.gd _ rfl rfl rfl (fun h => s_load1_box rfl (kn_opt rfl h) rfl rfl one_3) (Walk.gd _ rfl rfl rfl (fun h => s_bin rfl (kn_opt rfl h) (kn_opt rfl h) v_neq) (w_op rfl rfl rfl (s_or rfl (kn rfl) (fun hb => kn_opt rfl hb)) (w_mv rfl rfl rfl rfl rfl (Walk.gd _ rfl rfl rfl (fun h => s_faddr_box rfl (kn rfl) off_72_3) (Walk.gd _ rfl rfl rfl (fun h => s_load1_box rfl (kn_opt rfl h) rfl rfl one_3) (Walk.gd _ rfl rfl rfl (fun h => s_faddr_box rfl (kn rfl) off_72_3) (Walk.gd _ rfl rfl rfl (fun h => s_load1_box rfl (kn_opt rfl h) rfl rfl one_3) (Walk.gd _ rfl rfl rfl (fun h => s_bin rfl (kn_opt rfl h) (kn_opt rfl h) v_neq) (w_op rfl rfl rfl (s_or rfl (kn rfl) (fun hb => kn_opt rfl hb)) (w_mv rfl rfl rfl rfl rfl (Walk.gd _ rfl rfl rfl (fun h => s_faddr_box rfl (kn rfl) off_72_1) (Walk.gd _ rfl rfl rfl (fun h => s_load1_box rfl (kn_opt rfl h) rfl rfl one_70) (Walk.gd _ rfl rfl rfl (fun h => s_len rfl (kn_opt rfl h) sle_70) (Walk.gd _ rfl rfl rfl (fun h => s_faddr_box rfl (kn rfl) off_72_1) (Walk.gd _ rfl rfl rfl (fun h => s_load1_box rfl (kn_opt rfl h) rfl rfl one_70) (Walk.gd _ rfl rfl rfl (fun h => s_len rfl (kn_opt rfl h) sle_70) (Walk.gd _ rfl rfl rfl (fun h => s_bin rfl (kn_opt rfl h) (kn_opt rfl h) v_neq) (w_op rfl rfl rfl (s_or rfl (kn rfl) (fun hb => kn_opt rfl hb)) .nil)))))))))))))))))))))))))))) ?_
 try refine e_fl ?_
 refine e_cond rfl (fun h => ?_) (fun h => ?_)
 ·have hne : ¬ a = b := fun e => by subst e; simp at h
  try refine e_fl ?_
  refine e_plain (w_as rfl rfl rfl rfl rfl .nil) ?_
  try refine e_fl ?_
  exact e_return rfl rfl (.tmp (kn rfl) (.nil)) (Imp.of_eq (by rw [cdec_no hne]; rfl)) rfl
 simp only [Bool.or_eq_false_iff, Bool.not_eq_false', decide_eq_true_eq] at h
 obtain ⟨⟨⟨h1, h2⟩, h3⟩, h4⟩ := h
 have hl : a.vals.length = b.vals.length := by omega
 try refine e_fl ?_
 refine e_plain (w_op rfl rfl rfl (s_faddr_box rfl (kn rfl) off_72_1) (w_op rfl rfl rfl (s_load1_box rfl (kn rfl) rfl rfl one_70) (w_op rfl rfl rfl (s_len rfl (kn rfl) sle_70) (w_mv rfl rfl rfl rfl rfl .nil)))) ?_
 try refine e_fl ?_
 refine e_loop (ι := { k : Nat // k ≤ (a.vals).length ∧ (a.vals).take k = (b.vals).take k })
  (fun k => [(2, .box 2 0), (3, .box 3 0), (36, .is (.int .i64 ((a.vals).length : Int))), (37, .is (.int .i64 (k.1 : Int)))])
  (fun _ => [(2, ⟨72, bcs a.dats⟩), (3, ⟨72, bcs b.dats⟩)]) (fun _ => []) (fun k => (a.vals).length - k.1) ⟨0, by omega, by simp⟩
  (fun K => e_sub ⟨s_t, s_t, s_t, s_t, trivial⟩ ⟨s_b, s_b, trivial⟩ trivial) ?_
 rintro ⟨k, hk, hw⟩
 dsimp only at hk hw ⊢
 try refine e_fl ?_
 refine e_plain (w_op rfl rfl rfl (s_bin rfl (kn rfl) (kn rfl) v_lss) .nil) ?_
 try refine e_fl ?_
 refine e_cond rfl (fun h => ?_) (fun h => ?_)
 ·have hlt : k < (a.vals).length := by have := of_decide_eq_true h; omega
  obtain ⟨x, hx⟩ : ∃ x, (a.vals)[k]? = some x := ⟨_, List.getElem?_eq_getElem hlt⟩
  obtain ⟨y, hy⟩ : ∃ y, (b.vals)[k]? = some y := ⟨_, List.getElem?_eq_getElem (by omega)⟩
  try refine e_fl ?_
  refine e_plain (w_mv rfl rfl rfl rfl rfl (w_as rfl rfl rfl rfl rfl .nil)) ?_
  try refine e_fl ?_
  refine e_draw mixed (by kernel_rfl) (w_op rfl rfl rfl (s_faddr_box rfl (kn rfl) off_72_1) (w_op rfl rfl rfl (s_load1_box rfl (kn rfl) rfl rfl one_70) (w_mv rfl rfl rfl rfl rfl (w_op rfl rfl rfl (s_index rfl (kn rfl) (kn rfl) (by omega) hx Val.dats_len sle_70 esz_70 rfl) (w_op rfl rfl rfl (s_loadn_ref rfl (kn rfl) agg_116 sz_116) (w_op rfl rfl rfl (s_faddr_box rfl (kn rfl) off_72_1) (w_op rfl rfl rfl (s_load1_box rfl (kn rfl) rfl rfl one_70) (w_mv rfl rfl rfl rfl rfl (w_op rfl rfl rfl (s_index rfl (kn rfl) (kn rfl) (by omega) hy Val.dats_len sle_70 esz_70 rfl) (w_op rfl rfl rfl (s_loadn_ref rfl (kn rfl) agg_116 sz_116) (w_op rfl rfl rfl (s_binm (cs := x.cells) (ds := y.cells) rfl (kn rfl) (kn rfl) (neqVal x y)) .nil))))))))))) ?_
  try refine e_fl ?_
  refine e_cond rfl (fun h1 => ?_) (fun h1 => ?_)
  ·have hne : ¬ a = b := fun e => by
    subst e
    rw [hx] at hy
    obtain rfl := Option.some.inj hy
    rw [cdec_yes rfl] at h1
    cases h1
   try refine e_fl ?_
   refine e_plain (w_as rfl rfl rfl rfl rfl .nil) ?_
   try refine e_fl ?_
   exact e_return rfl rfl (.tmp (kn rfl) (.nil)) (Imp.of_eq (by rw [cdec_no hne]; rfl)) rfl
  obtain rfl : x = y := Val.cells_inj (cdec_neg h1)
  try refine e_fl ?_
  refine e_plain (w_op rfl rfl rfl (s_bin rfl (kn rfl) (kn rfl) (v_add64 (by first | omega | (dsimp only; omega) | omega))) (w_mv rfl rfl rfl rfl rfl .nil)) ?_
  try refine e_fl ?_
  refine e_again ⟨k + 1, by omega, take_more hw hx hy⟩ (by dsimp only; omega) (fun K => e_sub ⟨s_t, s_t, s_t, s_t, trivial⟩ ⟨s_b, s_b, trivial⟩ trivial)
 have hge : (a.vals).length ≤ k := by have := of_decide_eq_false h; omega
 have he := take_all hw hge (by omega)
 try refine e_fl ?_
 have hab : a = b := by
  obtain ⟨a1, a2, a3, a4⟩ := a
  obtain ⟨b1, b2, b3, b4⟩ := b
  dsimp only at h1 h2 h3 he
  rw [h1, h2, h3, he]
 refine e_plain (w_as rfl rfl rfl rfl rfl .nil) ?_
 try refine e_fl ?_
 exact e_return rfl rfl (.tmp (kn rfl) (.nil)) (Imp.of_eq (by rw [cdec_yes hab]; rfl)) rfl
set_option maxRecDepth 100000 in
set_option maxHeartbeats 4000000 in
theorem sameMessage_step (a b : Msg) (ha : a.fine) (ih : ∀ k ∈ a.msgs, ∀ k', EF Tryz.prog [] 21 [.many (md k), .many (md k')] (.part (bP (cdec (k = k'))))) : EF Tryz.prog [] 21 [.many (md a), .many (md b)] (.part (bP (cdec (a = b)))) := by
 refine ef_enter 154 Tryz.func21 rfl rfl rfl fun w D => ?_
 try refine e_fl ?_
 obtain ⟨f1, f2, f3, f4, f5, f6, f7, f8⟩ := (Msg.fine_iff a).1 ha
 refine e_list ?_
 refine e_box 2 rfl rfl rfl rfl (kn rfl) rfl rfl rfl rfl ?_
 refine e_box 3 rfl rfl rfl rfl (kn rfl) rfl rfl rfl rfl ?_
 refine l_as ?_
 refine e_nil ?_
 try refine e_fl ?_
 refine e_plain (w_op rfl rfl rfl (s_faddr_box rfl (kn rfl) off_68_0) (w_op rfl rfl rfl (s_load1_box rfl (kn rfl) rfl rfl one_9) (w_op rfl rfl rfl (s_faddr_box rfl (kn rfl) off_68_0) (w_op rfl rfl rfl (s_load1_box rfl (kn rfl) rfl rfl one_9) (w_op rfl rfl rfl (s_bin rfl (kn rfl) (kn rfl) (v_sneq)) (w_mv rfl rfl rfl rfl rfl (Walk.gd _ rfl rfl rfl (fun h => s_faddr_box rfl (kn rfl) off_68_7) (Walk.gd _ rfl rfl rfl (fun h => s_load1_box rfl (kn_opt rfl h) rfl rfl one_3) (Walk.gd _ rfl rfl rfl (fun h => s_faddr_box rfl (kn rfl) off_68_7) (Walk.gd _ rfl rfl rfl (fun h => s_load1_box rfl (kn_opt rfl h) rfl rfl one_3) (Walk.gd _ rfl rfl rfl (fun h => s_bin rfl (kn_opt rfl h) (kn_opt rfl h) v_neq) (w_op rfl rfl rfl (s_or rfl (kn rfl) (fun hb => kn_opt rfl hb)) (w_mv rfl rfl rfl rfl rfl (Walk.gd _ rfl rfl rfl (fun h => s_faddr_box rfl (kn rfl) off_68_8) (Walk.gd _ rfl rfl rfl (fun h => s_load1_box rfl (kn_opt rfl h) rfl rfl one_3) (Walk.gd _ rfl rfl rfl (fun h => s_faddr_box rfl (kn rfl) off_68_8) (Walk.gd _ rfl rfl rfl (fun h => s_load1_box rfl (kn_opt rfl h) rfl rfl one_3) (Walk.gd _ rfl rfl rfl (fun h => s_bin rfl (kn_opt rfl h) (kn_opt rfl h) v_neq) (w_op rfl rfl rfl (s_or rfl (kn rfl) (fun hb => kn_opt rfl hb)) (w_mv rfl rfl rfl rfl rfl (Walk.gd _ rfl rfl rfl (fun h => s_faddr_box rfl (kn rfl) off_68_1) (Walk.gd _ rfl rfl rfl (fun h => s_load1_box rfl (kn_opt rfl h) rfl rfl one_65) (Walk.gd _ rfl rfl rfl (fun h => s_len rfl (kn_opt rfl h) sle_65) (Walk.gd _ rfl rfl rfl (fun h => s_faddr_box rfl (kn rfl) off_68_1) (Walk.gd _ rfl rfl rfl (fun h => s_load1_box rfl (kn_opt rfl h) rfl rfl one_65) (Walk.gd _ rfl rfl rfl (fun h => s_len rfl (kn_opt rfl h) sle_65) (Walk.gd _ rfl rfl rfl (fun h => s_bin rfl (kn_opt rfl h) (kn_opt rfl h) v_neq) (w_op rfl rfl rfl (s_or rfl (kn rfl) (fun hb => kn_opt rfl hb)) (w_mv rfl rfl rfl rfl rfl (Walk.gd _ rfl rfl rfl (fun h => s_faddr_box rfl (kn rfl) off_68_3) (Walk.gd _ rfl rfl rfl (fun h => s_load1_box rfl (kn_opt rfl h) rfl rfl one_31) (Walk.gd _ rfl rfl rfl (fun h => s_len rfl (kn_opt rfl h) sle_31) (Walk.gd _ rfl rfl rfl (fun h => s_faddr_box rfl (kn rfl) off_68_3) (Walk.gd _ rfl rfl rfl (fun h => s_load1_box rfl (kn_opt rfl h) rfl rfl one_31) (Walk.gd _ rfl rfl rfl (fun h => s_len rfl (kn_opt rfl h) sle_31) (Walk.gd _ rfl rfl rfl (fun h => s_bin rfl (kn_opt rfl h) (kn_opt rfl h) v_neq) (w_op rfl rfl rfl (s_or rfl (kn rfl) (fun hb => kn_opt rfl hb)) (w_mv rfl rfl rfl rfl rfl (Walk.gd _ rfl rfl rfl (fun h => s_faddr_box rfl (kn rfl) off_68_4) (Walk.gd _ rfl rfl rfl (fun h => s_load1_box rfl (kn_opt rfl h) rfl rfl one_32) (Walk.gd _ rfl rfl rfl (fun h => s_len rfl (kn_opt rfl h) sle_32) (Walk.gd _ rfl rfl rfl (fun h => s_faddr_box rfl (kn rfl) off_68_4) (Walk.gd _ rfl rfl rfl (fun h => s_load1_box rfl (kn_opt rfl h) rfl rfl one_32) (Walk.gd _ rfl rfl rfl (fun h => s_len rfl (kn_opt rfl h) sle_32) (Walk.gd _ rfl rfl rfl (fun h => s_bin rfl (kn_opt rfl h) (kn_opt rfl h) v_neq) (w_op rfl rfl rfl (s_or rfl (kn rfl) (fun hb => kn_opt rfl hb)) (w_mv rfl rfl rfl rfl rfl (Walk.gd _ rfl rfl rfl (fun h => s_faddr_box rfl (kn rfl) off_68_5) (Walk.gd _ rfl rfl rfl (fun h => s_load1_box rfl (kn_opt rfl h) rfl rfl one_66) (Walk.gd _ rfl rfl rfl (fun h => s_len rfl (kn_opt rfl h) sle_66) (Walk.gd _ rfl rfl rfl (fun h => s_faddr_box rfl (kn rfl) off_68_5) (Walk.gd _ rfl rfl rfl (fun h => s_load1_box rfl (kn_opt rfl h) rfl rfl one_66) (Walk.gd _ rfl rfl rfl (fun h => s_len rfl (kn_opt rfl h) sle_66) (Walk.gd _ rfl rfl rfl (fun h => s_bin rfl (kn_opt rfl h) (kn_opt rfl h) v_neq) (w_op rfl rfl rfl (s_or rfl (kn rfl) (fun hb => kn_opt rfl hb)) (w_mv rfl rfl rfl rfl rfl (Walk.gd _ rfl rfl rfl (fun h => s_faddr_box rfl (kn rfl) off_68_2) (Walk.gd _ rfl rfl rfl (fun h => s_load1_box rfl (kn_opt rfl h) rfl rfl one_49) (Walk.gd _ rfl rfl rfl (fun h => s_faddr_box rfl (kn rfl) off_68_2) (Walk.gd _ rfl rfl rfl (fun h => s_load1_box rfl (kn_opt rfl h) rfl rfl one_49) (Walk.gd _ rfl rfl rfl (fun h => s_call rfl (by kernel_rfl) (sameTexts_ef a.oneofs b.oneofs f2) ⟨(kn_opt rfl h), ⟨(kn_opt rfl h), trivial⟩⟩) (Walk.gd _ rfl rfl rfl (fun h => s_not rfl (kn_opt rfl h)) (w_op rfl rfl rfl (s_or rfl (kn rfl) (fun hb => kn_opt rfl hb)) (w_mv rfl rfl rfl rfl rfl (Walk.gd _ rfl rfl rfl (fun h => s_faddr_box rfl (kn rfl) off_68_6) (Walk.gd _ rfl rfl rfl (fun h => s_load1_box rfl (kn_opt rfl h) rfl rfl one_49) (Walk.gd _ rfl rfl rfl (fun h => s_faddr_box rfl (kn rfl) off_68_6) (Walk.gd _ rfl rfl rfl (fun h => s_load1_box rfl (kn_opt rfl h) rfl rfl one_49) (Walk.gd _ rfl rfl rfl (fun h => s_call rfl (by kernel_rfl) (sameTexts_ef a.names b.names f6) ⟨(kn_opt rfl h), ⟨(kn_opt rfl h), trivial⟩⟩) (Walk.gd _ rfl rfl rfl (fun h => s_not rfl (kn_opt rfl h)) (w_op rfl rfl rfl (s_or rfl (kn rfl) (fun hb => kn_opt rfl hb)) .nil))))))))))))))))))))))))))))))))))))))))))))))))))))))))))))))))))))))) ?_
 try refine e_fl ?_
 refine e_cond rfl (fun h => ?_) (fun h => ?_)
 ·have hne : ¬ a = b := fun e => by subst e; simp [cdec_yes] at h
  try refine e_fl ?_
  refine e_plain (w_as rfl rfl rfl rfl rfl .nil) ?_
  try refine e_fl ?_
  exact e_return rfl rfl (.tmp (kn rfl) (.nil)) (Imp.of_eq (by rw [cdec_no hne]; rfl)) rfl
 simp only [Bool.or_eq_false_iff, Bool.not_eq_false', decide_eq_true_eq, cdec_true] at h
 obtain ⟨⟨⟨⟨⟨⟨⟨⟨g1, g2⟩, g3⟩, g4⟩, g5⟩, g6⟩, g7⟩, g8⟩, g9⟩ := h
 have hl1 : a.fields.length = b.fields.length := by omega
 have hl2 : a.msgs.length = b.msgs.length := by omega
 have hl3 : a.enums.length = b.enums.length := by omega
 have hl4 : a.reserved.length = b.reserved.length := by omega
 try refine e_fl ?_
 refine e_plain (w_op rfl rfl rfl (s_faddr_box rfl (kn rfl) off_68_1) (w_op rfl rfl rfl (s_load1_box rfl (kn rfl) rfl rfl one_65) (w_op rfl rfl rfl (s_len rfl (kn rfl) sle_65) (w_mv rfl rfl rfl rfl rfl .nil)))) ?_
 try refine e_fl ?_
 refine e_loop (ι := { k : Nat // k ≤ (a.fields).length ∧ (a.fields).take k = (b.fields).take k })
  (fun k => [(2, .box 2 0), (3, .box 3 0), (82, .is (.int .i64 ((a.fields).length : Int))), (83, .is (.int .i64 (k.1 : Int)))])
  (fun _ => [(2, ⟨68, bcs (md a)⟩), (3, ⟨68, bcs (md b)⟩)]) (fun _ => []) (fun k => (a.fields).length - k.1) ⟨0, by omega, by simp⟩
  (fun K => e_sub ⟨s_t, s_t, s_t, s_t, trivial⟩ ⟨s_b, s_b, trivial⟩ trivial) ?_
 rintro ⟨k, hk, hw⟩
 dsimp only at hk hw ⊢
 try refine e_fl ?_
 refine e_plain (w_op rfl rfl rfl (s_bin rfl (kn rfl) (kn rfl) v_lss) .nil) ?_
 try refine e_fl ?_
 refine e_cond rfl (fun h => ?_) (fun h => ?_)
 ·have hlt : k < (a.fields).length := by have := of_decide_eq_true h; omega
  obtain ⟨x, hx⟩ : ∃ x, (a.fields)[k]? = some x := ⟨_, List.getElem?_eq_getElem hlt⟩
  obtain ⟨y, hy⟩ : ∃ y, (b.fields)[k]? = some y := ⟨_, List.getElem?_eq_getElem (by omega)⟩
  try refine e_fl ?_
  refine e_plain (w_mv rfl rfl rfl rfl rfl (w_as rfl rfl rfl rfl rfl .nil)) ?_
  try refine e_fl ?_
  refine e_draw mixed (by kernel_rfl) (w_op rfl rfl rfl (s_faddr_box rfl (kn rfl) off_68_1) (w_op rfl rfl rfl (s_load1_box rfl (kn rfl) rfl rfl one_65) (w_mv rfl rfl rfl rfl rfl (w_op rfl rfl rfl (s_index rfl (kn rfl) (kn rfl) (by omega) hx Fld.dats_len sle_65 esz_65 rfl) (w_op rfl rfl rfl (s_loadn_ref rfl (kn rfl) agg_112 sz_112) (w_op rfl rfl rfl (s_faddr_box rfl (kn rfl) off_68_1) (w_op rfl rfl rfl (s_load1_box rfl (kn rfl) rfl rfl one_65) (w_mv rfl rfl rfl rfl rfl (w_op rfl rfl rfl (s_index rfl (kn rfl) (kn rfl) (by omega) hy Fld.dats_len sle_65 esz_65 rfl) (w_op rfl rfl rfl (s_loadn_ref rfl (kn rfl) agg_112 sz_112) (w_op rfl rfl rfl (s_binm (cs := x.cells) (ds := y.cells) rfl (kn rfl) (kn rfl) (neqFld x y)) .nil))))))))))) ?_
  try refine e_fl ?_
  refine e_cond rfl (fun h1 => ?_) (fun h1 => ?_)
  ·have hne : ¬ a = b := fun e => by
    subst e
    rw [hx] at hy
    obtain rfl := Option.some.inj hy
    rw [cdec_yes rfl] at h1
    cases h1
   try refine e_fl ?_
   refine e_plain (w_as rfl rfl rfl rfl rfl .nil) ?_
   try refine e_fl ?_
   exact e_return rfl rfl (.tmp (kn rfl) (.nil)) (Imp.of_eq (by rw [cdec_no hne]; rfl)) rfl
  obtain rfl : x = y := Fld.cells_inj (cdec_neg h1)
  try refine e_fl ?_
  refine e_plain (w_op rfl rfl rfl (s_bin rfl (kn rfl) (kn rfl) (v_add64 (by first | omega | (dsimp only; omega) | omega))) (w_mv rfl rfl rfl rfl rfl .nil)) ?_
  try refine e_fl ?_
  refine e_again ⟨k + 1, by omega, take_more hw hx hy⟩ (by dsimp only; omega) (fun K => e_sub ⟨s_t, s_t, s_t, s_t, trivial⟩ ⟨s_b, s_b, trivial⟩ trivial)
 have hge : (a.fields).length ≤ k := by have := of_decide_eq_false h; omega
 have e1 := take_all hw hge (by omega)
 try refine e_fl ?_
 refine e_plain (w_op rfl rfl rfl (s_faddr_box rfl (kn rfl) off_68_5) (w_op rfl rfl rfl (s_load1_box rfl (kn rfl) rfl rfl one_66) (w_op rfl rfl rfl (s_len rfl (kn rfl) sle_66) (w_mv rfl rfl rfl rfl rfl .nil)))) ?_
 try refine e_fl ?_
 refine e_loop (ι := { k : Nat // k ≤ (a.reserved).length ∧ (a.reserved).take k = (b.reserved).take k })
  (fun k => [(2, .box 2 0), (3, .box 3 0), (100, .is (.int .i64 ((a.reserved).length : Int))), (101, .is (.int .i64 (k.1 : Int)))])
  (fun _ => [(2, ⟨68, bcs (md a)⟩), (3, ⟨68, bcs (md b)⟩)]) (fun _ => []) (fun k => (a.reserved).length - k.1) ⟨0, by omega, by simp⟩
  (fun K => e_sub ⟨s_t, s_t, s_t, s_t, trivial⟩ ⟨s_b, s_b, trivial⟩ trivial) ?_
 rintro ⟨k, hk, hw⟩
 dsimp only at hk hw ⊢
 try refine e_fl ?_
 refine e_plain (w_op rfl rfl rfl (s_bin rfl (kn rfl) (kn rfl) v_lss) .nil) ?_
 try refine e_fl ?_
 refine e_cond rfl (fun h => ?_) (fun h => ?_)
 ·have hlt : k < (a.reserved).length := by have := of_decide_eq_true h; omega
  obtain ⟨x, hx⟩ : ∃ x, (a.reserved)[k]? = some x := ⟨_, List.getElem?_eq_getElem hlt⟩
  obtain ⟨y, hy⟩ : ∃ y, (b.reserved)[k]? = some y := ⟨_, List.getElem?_eq_getElem (by omega)⟩
  try refine e_fl ?_
  refine e_plain (w_mv rfl rfl rfl rfl rfl (w_as rfl rfl rfl rfl rfl .nil)) ?_
  try refine e_fl ?_
  refine e_draw mixed (by kernel_rfl) (w_op rfl rfl rfl (s_faddr_box rfl (kn rfl) off_68_5) (w_op rfl rfl rfl (s_load1_box rfl (kn rfl) rfl rfl one_66) (w_mv rfl rfl rfl rfl rfl (w_op rfl rfl rfl (s_index rfl (kn rfl) (kn rfl) (by omega) hx rangeDats_len sle_66 esz_66 rfl) (w_op rfl rfl rfl (s_loadn_ref rfl (kn rfl) agg_114 sz_114) (w_op rfl rfl rfl (s_faddr_box rfl (kn rfl) off_68_5) (w_op rfl rfl rfl (s_load1_box rfl (kn rfl) rfl rfl one_66) (w_mv rfl rfl rfl rfl rfl (w_op rfl rfl rfl (s_index rfl (kn rfl) (kn rfl) (by omega) hy rangeDats_len sle_66 esz_66 rfl) (w_op rfl rfl rfl (s_loadn_ref rfl (kn rfl) agg_114 sz_114) (w_op rfl rfl rfl (s_binm (cs := rngCells x) (ds := rngCells y) rfl (kn rfl) (kn rfl) (neqRng x y)) .nil))))))))))) ?_
  try refine e_fl ?_
  refine e_cond rfl (fun h1 => ?_) (fun h1 => ?_)
  ·have hne : ¬ a = b := fun e => by
    subst e
    rw [hx] at hy
    obtain rfl := Option.some.inj hy
    rw [cdec_yes rfl] at h1
    cases h1
   try refine e_fl ?_
   refine e_plain (w_as rfl rfl rfl rfl rfl .nil) ?_
   try refine e_fl ?_
   exact e_return rfl rfl (.tmp (kn rfl) (.nil)) (Imp.of_eq (by rw [cdec_no hne]; rfl)) rfl
  obtain rfl : x = y := rngCells_inj (cdec_neg h1)
  try refine e_fl ?_
  refine e_plain (w_op rfl rfl rfl (s_bin rfl (kn rfl) (kn rfl) (v_add64 (by first | omega | (dsimp only; omega) | omega))) (w_mv rfl rfl rfl rfl rfl .nil)) ?_
  try refine e_fl ?_
  refine e_again ⟨k + 1, by omega, take_more hw hx hy⟩ (by dsimp only; omega) (fun K => e_sub ⟨s_t, s_t, s_t, s_t, trivial⟩ ⟨s_b, s_b, trivial⟩ trivial)
 have hge : (a.reserved).length ≤ k := by have := of_decide_eq_false h; omega
 have e2 := take_all hw hge (by omega)
 try refine e_fl ?_
 refine e_plain (w_op rfl rfl rfl (s_faddr_box rfl (kn rfl) off_68_3) (w_op rfl rfl rfl (s_load1_box rfl (kn rfl) rfl rfl one_31) (w_op rfl rfl rfl (s_len rfl (kn rfl) sle_31) (w_mv rfl rfl rfl rfl rfl .nil)))) ?_
 try refine e_fl ?_
 refine e_loop (ι := { k : Nat // k ≤ (a.msgs).length ∧ (a.msgs).take k = (b.msgs).take k })
  (fun k => [(2, .box 2 0), (3, .box 3 0), (118, .is (.int .i64 ((a.msgs).length : Int))), (119, .is (.int .i64 (k.1 : Int)))])
  (fun _ => [(2, ⟨68, bcs (md a)⟩), (3, ⟨68, bcs (md b)⟩)]) (fun _ => []) (fun k => (a.msgs).length - k.1) ⟨0, by omega, by simp⟩
  (fun K => e_sub ⟨s_t, s_t, s_t, s_t, trivial⟩ ⟨s_b, s_b, trivial⟩ trivial) ?_
 rintro ⟨k, hk, hw⟩
 dsimp only at hk hw ⊢
 try refine e_fl ?_
 refine e_plain (w_op rfl rfl rfl (s_bin rfl (kn rfl) (kn rfl) v_lss) .nil) ?_
 try refine e_fl ?_
 refine e_cond rfl (fun h => ?_) (fun h => ?_)
 ·have hlt : k < (a.msgs).length := by have := of_decide_eq_true h; omega
  obtain ⟨x, hx⟩ : ∃ x, (a.msgs)[k]? = some x := ⟨_, List.getElem?_eq_getElem hlt⟩
  obtain ⟨y, hy⟩ : ∃ y, (b.msgs)[k]? = some y := ⟨_, List.getElem?_eq_getElem (by omega)⟩
  try refine e_fl ?_
  refine e_plain (w_mv rfl rfl rfl rfl rfl (w_as rfl rfl rfl rfl rfl .nil)) ?_
  try refine e_fl ?_
  refine e_draw mixed (by kernel_rfl) (w_op rfl rfl rfl (s_faddr_box rfl (kn rfl) off_68_3) (w_op rfl rfl rfl (s_load1_box rfl (kn rfl) rfl rfl one_31) (w_mv rfl rfl rfl rfl rfl (w_op rfl rfl rfl (s_index rfl (kn rfl) (kn rfl) (by omega) hx Msg.dats_len sle_31 esz_31 (dats_md x)) (w_op rfl rfl rfl (s_loadn_ref rfl (kn rfl) agg_68 sz_68) (w_op rfl rfl rfl (s_faddr_box rfl (kn rfl) off_68_3) (w_op rfl rfl rfl (s_load1_box rfl (kn rfl) rfl rfl one_31) (w_mv rfl rfl rfl rfl rfl (w_op rfl rfl rfl (s_index rfl (kn rfl) (kn rfl) (by omega) hy Msg.dats_len sle_31 esz_31 (dats_md y)) (w_op rfl rfl rfl (s_loadn_ref rfl (kn rfl) agg_68 sz_68) (w_op rfl rfl rfl (s_call rfl (by kernel_rfl) (ih x (List.mem_of_getElem? hx) y) ⟨(kn rfl), ⟨(kn rfl), trivial⟩⟩) (w_op rfl rfl rfl (s_not rfl (kn rfl)) .nil)))))))))))) ?_
  try refine e_fl ?_
  refine e_cond rfl (fun h1 => ?_) (fun h1 => ?_)
  ·have hne : ¬ a = b := fun e => by
    subst e
    rw [hx] at hy
    obtain rfl := Option.some.inj hy
    rw [cdec_yes rfl] at h1
    cases h1
   try refine e_fl ?_
   refine e_plain (w_as rfl rfl rfl rfl rfl .nil) ?_
   try refine e_fl ?_
   exact e_return rfl rfl (.tmp (kn rfl) (.nil)) (Imp.of_eq (by rw [cdec_no hne]; rfl)) rfl
  obtain rfl : x = y := cdec_neg h1
  try refine e_fl ?_
  refine e_plain (w_op rfl rfl rfl (s_bin rfl (kn rfl) (kn rfl) (v_add64 (by first | omega | (dsimp only; omega) | omega))) (w_mv rfl rfl rfl rfl rfl .nil)) ?_
  try refine e_fl ?_
  refine e_again ⟨k + 1, by omega, take_more hw hx hy⟩ (by dsimp only; omega) (fun K => e_sub ⟨s_t, s_t, s_t, s_t, trivial⟩ ⟨s_b, s_b, trivial⟩ trivial)
 have hge : (a.msgs).length ≤ k := by have := of_decide_eq_false h; omega
 have e3 := take_all hw hge (by omega)
 try refine e_fl ?_
 refine e_plain (w_op rfl rfl rfl (s_faddr_box rfl (kn rfl) off_68_4) (w_op rfl rfl rfl (s_load1_box rfl (kn rfl) rfl rfl one_32) (w_op rfl rfl rfl (s_len rfl (kn rfl) sle_32) (w_mv rfl rfl rfl rfl rfl .nil)))) ?_
 try refine e_fl ?_
 refine e_loop (ι := { k : Nat // k ≤ (a.enums).length ∧ (a.enums).take k = (b.enums).take k })
  (fun k => [(2, .box 2 0), (3, .box 3 0), (137, .is (.int .i64 ((a.enums).length : Int))), (138, .is (.int .i64 (k.1 : Int)))])
  (fun _ => [(2, ⟨68, bcs (md a)⟩), (3, ⟨68, bcs (md b)⟩)]) (fun _ => []) (fun k => (a.enums).length - k.1) ⟨0, by omega, by simp⟩
  (fun K => e_sub ⟨s_t, s_t, s_t, s_t, trivial⟩ ⟨s_b, s_b, trivial⟩ trivial) ?_
 rintro ⟨k, hk, hw⟩
 dsimp only at hk hw ⊢
 try refine e_fl ?_
 refine e_plain (w_op rfl rfl rfl (s_bin rfl (kn rfl) (kn rfl) v_lss) .nil) ?_
 try refine e_fl ?_
 refine e_cond rfl (fun h => ?_) (fun h => ?_)
 ·have hlt : k < (a.enums).length := by have := of_decide_eq_true h; omega
  obtain ⟨x, hx⟩ : ∃ x, (a.enums)[k]? = some x := ⟨_, List.getElem?_eq_getElem hlt⟩
  obtain ⟨y, hy⟩ : ∃ y, (b.enums)[k]? = some y := ⟨_, List.getElem?_eq_getElem (by omega)⟩
  try refine e_fl ?_
  refine e_plain (w_mv rfl rfl rfl rfl rfl (w_as rfl rfl rfl rfl rfl .nil)) ?_
  try refine e_fl ?_
  refine e_draw mixed (by kernel_rfl) (w_op rfl rfl rfl (s_faddr_box rfl (kn rfl) off_68_4) (w_op rfl rfl rfl (s_load1_box rfl (kn rfl) rfl rfl one_32) (w_mv rfl rfl rfl rfl rfl (w_op rfl rfl rfl (s_index rfl (kn rfl) (kn rfl) (by omega) hx Enm.dats_len sle_32 esz_32 rfl) (w_op rfl rfl rfl (s_loadn_ref rfl (kn rfl) agg_72 sz_72) (w_op rfl rfl rfl (s_faddr_box rfl (kn rfl) off_68_4) (w_op rfl rfl rfl (s_load1_box rfl (kn rfl) rfl rfl one_32) (w_mv rfl rfl rfl rfl rfl (w_op rfl rfl rfl (s_index rfl (kn rfl) (kn rfl) (by omega) hy Enm.dats_len sle_32 esz_32 rfl) (w_op rfl rfl rfl (s_loadn_ref rfl (kn rfl) agg_72 sz_72) (w_op rfl rfl rfl (s_call rfl (by kernel_rfl) (sameEnum_ef x y (f7 x (List.mem_of_getElem? hx))) ⟨(kn rfl), ⟨(kn rfl), trivial⟩⟩) (w_op rfl rfl rfl (s_not rfl (kn rfl)) .nil)))))))))))) ?_
  try refine e_fl ?_
  refine e_cond rfl (fun h1 => ?_) (fun h1 => ?_)
  ·have hne : ¬ a = b := fun e => by
    subst e
    rw [hx] at hy
    obtain rfl := Option.some.inj hy
    rw [cdec_yes rfl] at h1
    cases h1
   try refine e_fl ?_
   refine e_plain (w_as rfl rfl rfl rfl rfl .nil) ?_
   try refine e_fl ?_
   exact e_return rfl rfl (.tmp (kn rfl) (.nil)) (Imp.of_eq (by rw [cdec_no hne]; rfl)) rfl
  obtain rfl : x = y := cdec_neg h1
  try refine e_fl ?_
  refine e_plain (w_op rfl rfl rfl (s_bin rfl (kn rfl) (kn rfl) (v_add64 (by first | omega | (dsimp only; omega) | omega))) (w_mv rfl rfl rfl rfl rfl .nil)) ?_
  try refine e_fl ?_
  refine e_again ⟨k + 1, by omega, take_more hw hx hy⟩ (by dsimp only; omega) (fun K => e_sub ⟨s_t, s_t, s_t, s_t, trivial⟩ ⟨s_b, s_b, trivial⟩ trivial)
 have hge : (a.enums).length ≤ k := by have := of_decide_eq_false h; omega
 have e4 := take_all hw hge (by omega)
 try refine e_fl ?_
 have hab : a = b := by
  obtain ⟨a1, a2, a3, a4, a5, a6, a7, a8, a9⟩ := a
  obtain ⟨b1, b2, b3, b4, b5, b6, b7, b8, b9⟩ := b
  simp only [Msg.name, Msg.fields, Msg.oneofs, Msg.msgs, Msg.enums, Msg.reserved, Msg.names, Msg.line, Msg.col] at g1 g2 g3 g8 g9 e1 e2 e3 e4
  rw [g1, g2, g3, g8, g9, e1, e2, e3, e4]
 refine e_plain (w_as rfl rfl rfl rfl rfl .nil) ?_
 try refine e_fl ?_
 exact e_return rfl rfl (.tmp (kn rfl) (.nil)) (Imp.of_eq (by rw [cdec_yes hab]; rfl)) rfl
theorem Msg.mem_lt (a k : Msg) (h : k ∈ a.msgs) : SizeOf.sizeOf k < SizeOf.sizeOf a := by
 obtain ⟨a1, a2, a3, a4, a5, a6, a7, a8, a9⟩ := a
 exact Msg.child_lt h
theorem sameMessage_ef (a b : Msg) (ha : a.fine) : EF Tryz.prog [] 21 [.many (md a), .many (md b)] (.part (bP (cdec (a = b)))) :=
 sameMessage_step a b ha fun k hk k' => sameMessage_ef k k' (((Msg.fine_iff a).1 ha).2.2.2.2.2.2.2 k hk)
termination_by SizeOf.sizeOf a
decreasing_by exact Msg.mem_lt a k hk
def Fil.fine (f : Fil) : Prop := f.msgs.length ≤ 100000000000 ∧ f.enums.length ≤ 100000000000 ∧ (∀ x ∈ f.enums, x.fine) ∧ ∀ k ∈ f.msgs, k.fine
set_option maxRecDepth 100000 in
set_option maxHeartbeats 4000000 in
theorem same_ef (a b : Fil) (ha : a.fine) : EF Tryz.prog [] 9 [.many a.dats, .many b.dats] (.part (bP (cdec (a = b)))) := by
 refine ef_enter 68 Tryz.func9 rfl rfl rfl fun w D => ?_
 try refine e_fl ?_
 obtain ⟨f1, f2, f3, f4⟩ := ha
 refine e_list ?_
 refine e_box 2 rfl rfl rfl rfl (kn rfl) rfl rfl rfl rfl ?_
 refine e_box 3 rfl rfl rfl rfl (kn rfl) rfl rfl rfl rfl ?_
 refine l_as ?_
 refine e_nil ?_
 try refine e_fl ?_
 refine e_plain (w_op rfl rfl rfl (s_faddr_box rfl (kn rfl) off_34_0) (w_op rfl rfl rfl (s_load1_box rfl (kn rfl) rfl rfl one_9) (w_op rfl rfl rfl (s_faddr_box rfl (kn rfl) off_34_0) (w_op rfl rfl rfl (s_load1_box rfl (kn rfl) rfl rfl one_9) (w_op rfl rfl rfl (s_bin rfl (kn rfl) (kn rfl) (v_sneq)) (w_mv rfl rfl rfl rfl rfl (Walk.gd _ rfl rfl rfl (fun h => s_faddr_box rfl (kn rfl) off_34_1) (Walk.gd _ rfl rfl rfl (fun h => s_load1_box rfl (kn_opt rfl h) rfl rfl one_31) (Walk.gd _ rfl rfl rfl (fun h => s_len rfl (kn_opt rfl h) sle_31) (Walk.gd _ rfl rfl rfl (fun h => s_faddr_box rfl (kn rfl) off_34_1) (Walk.gd _ rfl rfl rfl (fun h => s_load1_box rfl (kn_opt rfl h) rfl rfl one_31) (Walk.gd _ rfl rfl rfl (fun h => s_len rfl (kn_opt rfl h) sle_31) (Walk.gd _ rfl rfl rfl (fun h => s_bin rfl (kn_opt rfl h) (kn_opt rfl h) v_neq) (w_op rfl rfl rfl (s_or rfl (kn rfl) (fun hb => kn_opt rfl hb)) (w_mv rfl rfl rfl rfl rfl (Walk.gd _ rfl rfl rfl (fun h => s_faddr_box rfl (kn rfl) off_34_2) (Walk.gd _ rfl rfl rfl (fun h => s_load1_box rfl (kn_opt rfl h) rfl rfl one_32) (Walk.gd _ rfl rfl rfl (fun h => s_len rfl (kn_opt rfl h) sle_32) (Walk.gd _ rfl rfl rfl (fun h => s_faddr_box rfl (kn rfl) off_34_2) (Walk.gd _ rfl rfl rfl (fun h => s_load1_box rfl (kn_opt rfl h) rfl rfl one_32) (Walk.gd _ rfl rfl rfl (fun h => s_len rfl (kn_opt rfl h) sle_32) (Walk.gd _ rfl rfl rfl (fun h => s_bin rfl (kn_opt rfl h) (kn_opt rfl h) v_neq) (w_op rfl rfl rfl (s_or rfl (kn rfl) (fun hb => kn_opt rfl hb)) .nil))))))))))))))))))))))) ?_
 try refine e_fl ?_
 refine e_cond rfl (fun h => ?_) (fun h => ?_)
 ·have hne : ¬ a = b := fun e => by subst e; simp at h
  try refine e_fl ?_
  refine e_plain (w_as rfl rfl rfl rfl rfl .nil) ?_
  try refine e_fl ?_
  exact e_return rfl rfl (.tmp (kn rfl) (.nil)) (Imp.of_eq (by rw [cdec_no hne]; rfl)) rfl
 simp only [Bool.or_eq_false_iff, Bool.not_eq_false', decide_eq_true_eq] at h
 obtain ⟨⟨g1, g2⟩, g3⟩ := h
 have hl1 : a.msgs.length = b.msgs.length := by omega
 have hl2 : a.enums.length = b.enums.length := by omega
 try refine e_fl ?_
 refine e_plain (w_op rfl rfl rfl (s_faddr_box rfl (kn rfl) off_34_1) (w_op rfl rfl rfl (s_load1_box rfl (kn rfl) rfl rfl one_31) (w_op rfl rfl rfl (s_len rfl (kn rfl) sle_31) (w_mv rfl rfl rfl rfl rfl .nil)))) ?_
 try refine e_fl ?_
 refine e_loop (ι := { k : Nat // k ≤ (a.msgs).length ∧ (a.msgs).take k = (b.msgs).take k })
  (fun k => [(2, .box 2 0), (3, .box 3 0), (32, .is (.int .i64 ((a.msgs).length : Int))), (33, .is (.int .i64 (k.1 : Int)))])
  (fun _ => [(2, ⟨34, bcs a.dats⟩), (3, ⟨34, bcs b.dats⟩)]) (fun _ => []) (fun k => (a.msgs).length - k.1) ⟨0, by omega, by simp⟩
  (fun K => e_sub ⟨s_t, s_t, s_t, s_t, trivial⟩ ⟨s_b, s_b, trivial⟩ trivial) ?_
 rintro ⟨k, hk, hw⟩
 dsimp only at hk hw ⊢
 try refine e_fl ?_
 refine e_plain (w_op rfl rfl rfl (s_bin rfl (kn rfl) (kn rfl) v_lss) .nil) ?_
 try refine e_fl ?_
 refine e_cond rfl (fun h => ?_) (fun h => ?_)
 ·have hlt : k < (a.msgs).length := by have := of_decide_eq_true h; omega
  obtain ⟨x, hx⟩ : ∃ x, (a.msgs)[k]? = some x := ⟨_, List.getElem?_eq_getElem hlt⟩
  obtain ⟨y, hy⟩ : ∃ y, (b.msgs)[k]? = some y := ⟨_, List.getElem?_eq_getElem (by omega)⟩
  try refine e_fl ?_
  refine e_plain (w_mv rfl rfl rfl rfl rfl (w_as rfl rfl rfl rfl rfl .nil)) ?_
  try refine e_fl ?_
  refine e_draw mixed (by kernel_rfl) (w_op rfl rfl rfl (s_faddr_box rfl (kn rfl) off_34_1) (w_op rfl rfl rfl (s_load1_box rfl (kn rfl) rfl rfl one_31) (w_mv rfl rfl rfl rfl rfl (w_op rfl rfl rfl (s_index rfl (kn rfl) (kn rfl) (by omega) hx Msg.dats_len sle_31 esz_31 (dats_md x)) (w_op rfl rfl rfl (s_loadn_ref rfl (kn rfl) agg_68 sz_68) (w_op rfl rfl rfl (s_faddr_box rfl (kn rfl) off_34_1) (w_op rfl rfl rfl (s_load1_box rfl (kn rfl) rfl rfl one_31) (w_mv rfl rfl rfl rfl rfl (w_op rfl rfl rfl (s_index rfl (kn rfl) (kn rfl) (by omega) hy Msg.dats_len sle_31 esz_31 (dats_md y)) (w_op rfl rfl rfl (s_loadn_ref rfl (kn rfl) agg_68 sz_68) (w_op rfl rfl rfl (s_call rfl (by kernel_rfl) (sameMessage_ef x y (f4 x (List.mem_of_getElem? hx))) ⟨(kn rfl), ⟨(kn rfl), trivial⟩⟩) (w_op rfl rfl rfl (s_not rfl (kn rfl)) .nil)))))))))))) ?_
  try refine e_fl ?_
  refine e_cond rfl (fun h1 => ?_) (fun h1 => ?_)
  ·have hne : ¬ a = b := fun e => by
    subst e
    rw [hx] at hy
    obtain rfl := Option.some.inj hy
    rw [cdec_yes rfl] at h1
    cases h1
   try refine e_fl ?_
   refine e_plain (w_as rfl rfl rfl rfl rfl .nil) ?_
   try refine e_fl ?_
   exact e_return rfl rfl (.tmp (kn rfl) (.nil)) (Imp.of_eq (by rw [cdec_no hne]; rfl)) rfl
  obtain rfl : x = y := cdec_neg h1
  try refine e_fl ?_
  refine e_plain (w_op rfl rfl rfl (s_bin rfl (kn rfl) (kn rfl) (v_add64 (by first | omega | (dsimp only; omega) | omega))) (w_mv rfl rfl rfl rfl rfl .nil)) ?_
  try refine e_fl ?_
  refine e_again ⟨k + 1, by omega, take_more hw hx hy⟩ (by dsimp only; omega) (fun K => e_sub ⟨s_t, s_t, s_t, s_t, trivial⟩ ⟨s_b, s_b, trivial⟩ trivial)
 have hge : (a.msgs).length ≤ k := by have := of_decide_eq_false h; omega
 have e1 := take_all hw hge (by omega)
 try refine e_fl ?_
 refine e_plain (w_op rfl rfl rfl (s_faddr_box rfl (kn rfl) off_34_2) (w_op rfl rfl rfl (s_load1_box rfl (kn rfl) rfl rfl one_32) (w_op rfl rfl rfl (s_len rfl (kn rfl) sle_32) (w_mv rfl rfl rfl rfl rfl .nil)))) ?_
 try refine e_fl ?_
 refine e_loop (ι := { k : Nat // k ≤ (a.enums).length ∧ (a.enums).take k = (b.enums).take k })
  (fun k => [(2, .box 2 0), (3, .box 3 0), (51, .is (.int .i64 ((a.enums).length : Int))), (52, .is (.int .i64 (k.1 : Int)))])
  (fun _ => [(2, ⟨34, bcs a.dats⟩), (3, ⟨34, bcs b.dats⟩)]) (fun _ => []) (fun k => (a.enums).length - k.1) ⟨0, by omega, by simp⟩
  (fun K => e_sub ⟨s_t, s_t, s_t, s_t, trivial⟩ ⟨s_b, s_b, trivial⟩ trivial) ?_
 rintro ⟨k, hk, hw⟩
 dsimp only at hk hw ⊢
 try refine e_fl ?_
 refine e_plain (w_op rfl rfl rfl (s_bin rfl (kn rfl) (kn rfl) v_lss) .nil) ?_
 try refine e_fl ?_
 refine e_cond rfl (fun h => ?_) (fun h => ?_)
 ·have hlt : k < (a.enums).length := by have := of_decide_eq_true h; omega
  obtain ⟨x, hx⟩ : ∃ x, (a.enums)[k]? = some x := ⟨_, List.getElem?_eq_getElem hlt⟩
  obtain ⟨y, hy⟩ : ∃ y, (b.enums)[k]? = some y := ⟨_, List.getElem?_eq_getElem (by omega)⟩
  try refine e_fl ?_
  refine e_plain (w_mv rfl rfl rfl rfl rfl (w_as rfl rfl rfl rfl rfl .nil)) ?_
  try refine e_fl ?_
  refine e_draw mixed (by kernel_rfl) (w_op rfl rfl rfl (s_faddr_box rfl (kn rfl) off_34_2) (w_op rfl rfl rfl (s_load1_box rfl (kn rfl) rfl rfl one_32) (w_mv rfl rfl rfl rfl rfl (w_op rfl rfl rfl (s_index rfl (kn rfl) (kn rfl) (by omega) hx Enm.dats_len sle_32 esz_32 rfl) (w_op rfl rfl rfl (s_loadn_ref rfl (kn rfl) agg_72 sz_72) (w_op rfl rfl rfl (s_faddr_box rfl (kn rfl) off_34_2) (w_op rfl rfl rfl (s_load1_box rfl (kn rfl) rfl rfl one_32) (w_mv rfl rfl rfl rfl rfl (w_op rfl rfl rfl (s_index rfl (kn rfl) (kn rfl) (by omega) hy Enm.dats_len sle_32 esz_32 rfl) (w_op rfl rfl rfl (s_loadn_ref rfl (kn rfl) agg_72 sz_72) (w_op rfl rfl rfl (s_call rfl (by kernel_rfl) (sameEnum_ef x y (f3 x (List.mem_of_getElem? hx))) ⟨(kn rfl), ⟨(kn rfl), trivial⟩⟩) (w_op rfl rfl rfl (s_not rfl (kn rfl)) .nil)))))))))))) ?_
  try refine e_fl ?_
  refine e_cond rfl (fun h1 => ?_) (fun h1 => ?_)
  ·have hne : ¬ a = b := fun e => by
    subst e
    rw [hx] at hy
    obtain rfl := Option.some.inj hy
    rw [cdec_yes rfl] at h1
    cases h1
   try refine e_fl ?_
   refine e_plain (w_as rfl rfl rfl rfl rfl .nil) ?_
   try refine e_fl ?_
   exact e_return rfl rfl (.tmp (kn rfl) (.nil)) (Imp.of_eq (by rw [cdec_no hne]; rfl)) rfl
  obtain rfl : x = y := cdec_neg h1
  try refine e_fl ?_
  refine e_plain (w_op rfl rfl rfl (s_bin rfl (kn rfl) (kn rfl) (v_add64 (by first | omega | (dsimp only; omega) | omega))) (w_mv rfl rfl rfl rfl rfl .nil)) ?_
  try refine e_fl ?_
  refine e_again ⟨k + 1, by omega, take_more hw hx hy⟩ (by dsimp only; omega) (fun K => e_sub ⟨s_t, s_t, s_t, s_t, trivial⟩ ⟨s_b, s_b, trivial⟩ trivial)
 have hge : (a.enums).length ≤ k := by have := of_decide_eq_false h; omega
 have e2 := take_all hw hge (by omega)
 try refine e_fl ?_
 have hab : a = b := by
  obtain ⟨a1, a2, a3⟩ := a
  obtain ⟨b1, b2, b3⟩ := b
  dsimp only at g1 e1 e2
  rw [g1, e1, e2]
 refine e_plain (w_as rfl rfl rfl rfl rfl .nil) ?_
 try refine e_fl ?_
 exact e_return rfl rfl (.tmp (kn rfl) (.nil)) (Imp.of_eq (by rw [cdec_yes hab]; rfl)) rfl
end Go.Proofs.YtfcjeciepadmeaaGreatDoor
