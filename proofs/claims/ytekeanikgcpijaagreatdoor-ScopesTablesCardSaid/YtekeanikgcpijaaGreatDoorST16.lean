/- Part 16 of what the last text of this claim is proved by: walks over the program, and the math behind them. Conditions: as each theorem says. -/
import Derived.Test.YtekeanikgcpijaaGreatDoorST15
import Derived.Test.YtekeanikgcpijaaGreatDoorProg
import Derived.Lib.UnsafeStr
import Derived.RegionTactic
import Derived.ChangeAlike
namespace Go.Proofs.YtekeanikgcpijaaGreatDoor
open Go.RowKit
abbrev byD (l : List UInt8) : List Dat := l.map fun b => .cell (bv b)
abbrev bB (c0 : IV) : BL := [(2, ⟨166, [c0, .own 200]⟩)]
abbrev bR (l : List UInt8) : RL := [(200, ⟨5, 1, l.length, byD l, false⟩)]
def BY (l : List UInt8) (y0 y : IV) (B1 : BL) (R1 : RL) : Prop := y = y0 ∧ B1 = bB (.box 2 0) ∧ R1 = bR l
theorem BY.tidy {l m : List UInt8} {c0 : IV} {ps : List Part} (y : IV) (B1 : BL) (R1 : RL) (h : BY l (.tup ps) y B1 R1) : Tidy (bB c0) (bR m) y B1 R1 := by
 obtain ⟨rfl, rfl, rfl⟩ := h
 exact ⟨rfl, rfl, rfl, rfl⟩
theorem noEscape_same (v : Value) (w : World) : (callFunc 103 #[v]).run Tryz.prog w = .ok (.value v) w := by
 rw [run_callFunc_extern (e := Extern.AbiNoEscape.same) Tryz.func103 (by kernel_rfl) (by kernel_rfl) (by rfl) (by rfl), Lib.run_noEscape]
 rfl
set_option maxRecDepth 100000 in
theorem copyCheck_nil (gls : List (Nat × List Value)) (l : List UInt8) : EG Tryz.prog gls 90 [.box 2 0] (bB (.is (.pointer none))) (bR l) (BY l (.tup [])) := by
 refine eg_enter 20 Tryz.func90 rfl rfl rfl fun w D bor mb => ?_
 try refine e_fl ?_
 refine e_plain (w_mv rfl rfl rfl rfl rfl (w_op rfl rfl rfl (s_nil_box rfl (kn rfl)) (w_op rfl rfl rfl (s_faddr_box rfl (kn rfl) off_166_0) (w_op rfl rfl rfl (s_load1_box rfl (kn rfl) rfl rfl one_163) (w_op rfl rfl rfl (s_ptr_nil rfl (kn rfl) (by kernel_rfl)) .nil))))) ?_
 try refine e_fl ?_
 refine c_yes ?_
 try refine e_fl ?_
 refine e_list ?_
 refine l_mv ?_
 refine l_mv ?_
 refine l_op (s_toU (t := 166) rfl (kn rfl) rfl (by kernel_rfl) (by kernel_rfl) (by kernel_rfl) rfl) ?_
 refine l_op (s_same rfl noEscape_same (kn rfl)) ?_
 refine l_op (s_fromU (u := 166) rfl (kn rfl) rfl (by kernel_rfl) (by kernel_rfl) (by kernel_rfl) (by kernel_rfl)) ?_
 refine l_op (s_nil_box rfl (kn rfl)) ?_
 refine l_op (s_faddr_box rfl (kn rfl) off_166_0) ?_
 refine e_store1 rfl rfl rfl (kn rfl) rfl (kn rfl) rfl rfl sz_163 rfl ?_
 refine e_nil ?_
 try refine e_fl ?_
 exact e_endx (bB (.box 2 0)) (bR l) rfl .nil (Imp.refl _) ⟨s_b, trivial⟩ ⟨rfl, trivial⟩ ⟨rfl, rfl, rfl⟩
set_option maxRecDepth 100000 in
theorem copyCheck_box (gls : List (Nat × List Value)) (l : List UInt8) : EG Tryz.prog gls 90 [.box 2 0] (bB (.box 2 0)) (bR l) (BY l (.tup [])) := by
 refine eg_enter 20 Tryz.func90 rfl rfl rfl fun w D bor mb => ?_
 try refine e_fl ?_
 refine e_plain (w_mv rfl rfl rfl rfl rfl (w_op rfl rfl rfl (s_nil_box rfl (kn rfl)) (w_op rfl rfl rfl (s_faddr_box rfl (kn rfl) off_166_0) (w_op rfl rfl rfl (s_load1_box rfl (kn rfl) rfl rfl one_163) (w_op rfl rfl rfl (s_ptr_box rfl (kn rfl) (by kernel_rfl)) .nil))))) ?_
 try refine e_fl ?_
 refine c_no ?_
 try refine e_fl ?_
 refine e_plain (w_mv rfl rfl rfl rfl rfl (w_op rfl rfl rfl (s_nil_box rfl (kn rfl)) (w_op rfl rfl rfl (s_faddr_box rfl (kn rfl) off_166_0) (w_op rfl rfl rfl (s_load1_box rfl (kn rfl) rfl rfl one_163) (w_mv rfl rfl rfl rfl rfl (w_op rfl rfl rfl (s_box_neq (te := 166) rfl (kn rfl) (kn rfl) (by kernel_rfl) (by kernel_rfl)) .nil)))))) ?_
 try refine e_fl ?_
 refine c_no ?_
 try refine e_fl ?_
 exact e_endx (bB (.box 2 0)) (bR l) rfl .nil (Imp.refl _) ⟨s_b, trivial⟩ ⟨rfl, trivial⟩ ⟨rfl, rfl, rfl⟩
theorem copyCheck_g (gls : List (Nat × List Value)) (c0 : IV) (h0 : c0 = .is (.pointer none) ∨ c0 = .box 2 0) (l : List UInt8) : EG Tryz.prog gls 90 [.box 2 0] (bB c0) (bR l) (BY l (.tup [])) := by
 rcases h0 with rfl | rfl
 ·exact copyCheck_nil gls l
 ·exact copyCheck_box gls l
set_option maxRecDepth 100000 in
theorem write_g (gls : List (Nat × List Value)) (c0 : IV) (h0 : c0 = .is (.pointer none) ∨ c0 = .box 2 0) (l t : List UInt8) (hl : l.length + t.length ≤ 140737488355328) : EG Tryz.prog gls 75 [.box 2 0, .part (sP t)] (bB c0) (bR l) (BY (l ++ t) (.tup [iP t.length, nilP])) := by
 refine eg_enter 19 Tryz.func75 rfl rfl rfl fun w D bor mb => ?_
 try refine e_fl ?_
 refine e_plain (w_as rfl rfl rfl rfl rfl (w_as rfl rfl rfl rfl rfl .nil)) ?_
 try refine e_fl ?_
 refine e_list ?_
 refine l_mv ?_
 refine e_calli rfl rfl rfl rfl (by kernel_rfl) (copyCheck_g gls c0 h0 l) ⟨rfl, trivial⟩ ⟨rfl, trivial⟩ ⟨(kn rfl), trivial⟩ (BY.tidy) ?_
 rintro _ _ _ ⟨rfl, rfl, rfl⟩
 refine e_nil ?_
 try refine e_fl ?_
 refine e_list ?_
 refine l_mv ?_
 refine l_mv ?_
 refine l_op (s_nil_box rfl (kn rfl)) ?_
 refine l_op (s_faddr_box rfl (kn rfl) off_166_1) ?_
 refine l_op (s_load1_box rfl (kn rfl) rfl rfl one_164) ?_
 refine l_mv ?_
 refine e_append_str rfl rfl rfl rfl (kn rfl) rfl (kn rfl) sl_164 str_9 (by kernel_rfl) (by omega) ?_
 refine l_op (s_nil_box rfl (kn rfl)) ?_
 refine l_op (s_faddr_box rfl (kn rfl) off_166_1) ?_
 refine e_store_own rfl rfl rfl (kn rfl) rfl (kn rfl) rfl rfl sz_164 rfl ?_
 refine e_nil ?_
 try refine e_fl ?_
 refine e_plain (w_mv rfl rfl rfl rfl rfl (w_op rfl rfl rfl (s_slen rfl (kn rfl) str_9) (w_as rfl rfl rfl rfl rfl (w_as rfl rfl rfl rfl rfl .nil)))) ?_
 try refine e_fl ?_
 exact e_returnx (bB (.box 2 0)) (bR (l ++ t)) rfl (.tmp (kn rfl) (.tmp (kn rfl) (.nil))) (Imp.refl _) ⟨s_b, trivial⟩ ⟨rowEq rfl (by simp) (by simp [byD]), trivial⟩ (⟨rfl, rfl, rfl⟩)
structure Else (g : Nat) (w w' : World) : Prop where
 os : w'.os = w.os
 tape : w'.tape = w.tape
 output : w'.output = w.output
 size : w'.heap.size = w.heap.size
 block : ∀ k, k ≠ g → w'.heap[k]? = w.heap[k]?
theorem else_freeze (w : World) (g n : Nat) : Else g w (w.freeze ⟨g, 0, none⟩ n) := by
 unfold World.freeze
 split
 ·exact ⟨rfl, rfl, rfl, rfl, fun _ _ => rfl⟩
 ·exact ⟨rfl, rfl, rfl, by simp, fun k hk => by
   simp only [Array.getElem?_modify]
   rw [if_neg (Ne.symm hk)]⟩
theorem else_drew {g : Nat} {w w' : World} (h : Else g w.drew w') : Else g w w' := ⟨h.os, h.tape, h.output, h.size, h.block⟩
theorem infoByteU : Tryz.prog.cellsOf 5 = 1 := by kernel_rfl
set_option maxRecDepth 100000 in
set_option maxHeartbeats 1000000 in
theorem string_raw (w : World) (b : Nat) (l : List UInt8) (p v : Value) (hk : Blk w b 166 [p, v]) (hown : w.ownsRow 0 5 1 v l.length (l.map bv)) (hl : l ≠ []) (hlen : l.length ≤ 140737488355328) :
  Calls Tryz.prog 76 #[.pointer (some ⟨b, 0, none⟩)] w fun e w' => e = .returned (.string (str l)) ∧ ∃ g, v.ownBlock = some g ∧ Else g w w' := by
 have hpos : 0 < l.length := List.length_pos_iff.2 hl
 obtain ⟨g, cap, rest, rfl, _, hg, hnc, _, _⟩ := own_blk hown hpos
 have c1 : w.drew.cell? ⟨b, 1, none⟩ = some (.slice (some ⟨g, 0, none⟩) l.length cap) := (hk.drewN 1).cell 1
 have hdata : (Builtin.unsafeSliceData_ #[164] 190 #[.slice (some ⟨g, 0, none⟩) l.length cap]).run Tryz.prog w.drew = .ok (.pointer (some ⟨g, 0, none⟩)) w.drew := Lib.run_unsafeSliceData_row _ _ _ _ _ _ (by omega)
 have hstr : (Builtin.unsafeString_ #[190, 3] 9 #[.pointer (some ⟨g, 0, none⟩), .int .i64 (l.length : Int)]).run Tryz.prog w.drew = .ok (.string (str l)) (w.drew.freeze ⟨g, 0, none⟩ l.length) :=
  Lib.run_unsafeString_row _ _ _ _ 5 Tryz.underlying190 infoByteU g (l.map bv ++ rest).length (blk_shape (hg.drewN 1)) l hl (by simp) (by omega) fun j x hx => by
   have hj : j < l.length := (List.getElem?_eq_some_iff.1 hx).1
   rw [Addr.add_lit, Nat.zero_add, (hg.drewN 1).cell, List.getElem?_append_left (by simpa using hj), List.getElem?_map, hx]
   rfl
 have hend : ∃ h, (Value.slice (some ⟨g, 0, none⟩) l.length cap).ownBlock = some h ∧ Else h w (w.drew.freeze ⟨g, 0, none⟩ l.length) := ⟨g, rfl, else_drew (else_freeze _ _ _)⟩
 clear hk hown hg hl
 go_enter Tryz.func76, Tryz.ntmps76
 go_wp2
 go_region
 all_goals
  go_wp2
  go_ret
  exact ⟨rfl, hend⟩
def StrY (l : List UInt8) (y : IV) (B1 : BL) (R1 : RL) : Prop := y = .part (sP l) ∧ B1 = [(2, ⟨166, [.junk, .junk]⟩)] ∧ R1 = [(200, ⟨5, 1, 0, [], true⟩)]
theorem StrY.tidy {l m : List UInt8} {c0 : IV} (y : IV) (B1 : BL) (R1 : RL) (h : StrY l y B1 R1) : Tidy (bB c0) (bR m) y B1 R1 := by
 obtain ⟨rfl, rfl, rfl⟩ := h
 exact ⟨rfl, rfl, rfl, rfl⟩
theorem fits_only {w : World} {D : Nat → Prop} : ∀ {cs xs : List Value}, Fits w D (cs.map .cell) xs → xs = cs
 | [], xs, h => List.length_eq_zero_iff.1 (by simpa using h.1.symm)
 | c :: cs, xs, h => by
  obtain ⟨x, ys, rfl, h1, h2⟩ := h.head
  rw [h1.cell_eq, fits_only h2]
theorem string_g (gls : List (Nat × List Value)) (c0 : IV) (l : List UInt8) (hl : l ≠ []) (hlen : l.length ≤ 140737488355328) : EG Tryz.prog gls 76 [.box 2 0] (bB c0) (bR l) (StrY l) := fun w D M V vs n hh hp => by
 obtain ⟨v, rfl, hv⟩ : ∃ v, vs = [v] ∧ v = .pointer (some ⟨M 2, 0, none⟩) := by
  match vs, hp with
  | [v], h => exact ⟨v, rfl, h.1⟩
 subst hv
 obtain ⟨hb1, cs, hblk, hfit⟩ := hh.box 2 ⟨166, [c0, .own 200]⟩ rfl
 have hrow := hh.row 200 ⟨5, 1, l.length, byD l, false⟩ rfl
 obtain ⟨xs, hown, hfx⟩ : Gr w _ 0 5 1 (V 200) l.length (byD l) := Gx.row hrow rfl
 have hxs : xs = l.map bv := fits_only (by rw [List.map_map]; exact hfx)
 subst hxs
 obtain ⟨p, v2, rfl⟩ : ∃ p v2, cs = [p, v2] := by
  match cs, hfit.1 with
  | [p, v2], _ => exact ⟨p, v2, rfl⟩
 have hv2 : v2 = V 200 := (hfit.2 1 (.own 200) v2 rfl rfl).1
 subst hv2
 refine (string_raw w (M 2) l p (V 200) hblk hown hl hlen).mono fun e w' ⟨h1, g, h2, h3⟩ => ?_
 replace h2 := (obk_row hown).trans h2
 have hg : M 2 ≠ g := hh.br 2 200 _ _ g rfl rfl rfl h2
 have hbor : Bor (bB c0) (bR l) M V g := .inr ⟨200, _, rfl, rfl, h2⟩
 refine ⟨_, _, _, _, M, fun _ => .slice none 0 0, h1, ⟨rfl, rfl, rfl⟩, ⟨⟨h3.os, h3.tape, h3.output, Nat.le_of_eq h3.size.symm, fun k hk hnb => h3.block k fun e => hnb (e ▸ hbor)⟩, hh.d0, hh.bl, hh.gl, fun b x hx => ?_, fun r x hx => ?_, fun r x g hx hf => ?_, hh.pin, fun b c x y hx hy _ => ?_, fun b r x y g hx hy hf => ?_, fun r q x y g hx hy hf => ?_⟩, .cell _⟩
 ·rcases lk_cons hx with ⟨rfl, rfl⟩ | ⟨_, hx⟩
  ·exact ⟨hb1, _, by unfold Blk at hblk ⊢; rw [h3.block _ hg]; exact hblk, rfl, fun j x v hx hv => ⟨by
    match j, hx with
    | 0, hx => obtain rfl := Option.some.inj hx; trivial
    | 1, hx => obtain rfl := Option.some.inj hx; trivial
    | j + 2, hx => simp at hx, by
    match j, hv with
    | 0, hv => exact (hfit.2 0 _ v rfl hv).2
    | 1, hv => exact (hfit.2 1 _ v rfl hv).2
    | j + 2, hv => simp at hv⟩⟩
  ·cases hx
 ·rcases lk_cons hx with ⟨rfl, rfl⟩ | ⟨_, hx⟩
  ·exact .none _ _ _
  ·cases hx
 ·rcases lk_cons hx with ⟨rfl, rfl⟩ | ⟨_, hx⟩
  ·cases hf
  ·cases hx
 ·rcases lk_cons hx with ⟨rfl, rfl⟩ | ⟨_, hx⟩
  ·rcases lk_cons hy with ⟨rfl, rfl⟩ | ⟨_, hy⟩
   ·rfl
   ·cases hy
  ·cases hx
 ·rcases lk_cons hy with ⟨rfl, rfl⟩ | ⟨_, hy⟩
  ·cases hf
  ·cases hy
 ·rcases lk_cons hx with ⟨rfl, rfl⟩ | ⟨_, hx⟩
  ·cases hf
  ·cases hx
end Go.Proofs.YtekeanikgcpijaaGreatDoor
namespace Go.Proofs.YtekeanikgcpijaaGreatDoor
open Go.RowKit
theorem Res.next {β γ : Type} {r : Ans8 β} {R : Ans8 γ} {v : β} {u : γ} {a b : Nat} (hr : Res r v a b) (hok : r = .ok v → R = .ok u) (her : r = .error (a, b) → R = .error (a, b)) : Res R u a b := by
 rcases hr with ⟨h1, h2, h3⟩ | ⟨h1, h3⟩
 ·exact .inl ⟨h1, h2, hok h3⟩
 ·exact .inr ⟨h1, her h3⟩
end Go.Proofs.YtekeanikgcpijaaGreatDoor
namespace Go.Proofs.YtekeanikgcpijaaGreatDoor
open Go.RowKit
theorem isText_eq (l : List Tk) (p : Nat) : (decide ((p : Int) < (l.length : Int)) && decide (((tkAt l p).1.k : Int) = 3)) = isText l p := by
 rw [int_lt, show decide (((tkAt l p).1.k : Int) = 3) = decide ((tkAt l p).1.k = 3) from int_eq _ 3]
 unfold isText
 by_cases h : p < l.length
 ·rw [tkAt_lt h, decide_eq_true h]
  simp
 ·rw [List.getElem?_eq_none (by omega), decide_eq_false h]
  simp
end Go.Proofs.YtekeanikgcpijaaGreatDoor
namespace Go.Proofs.YtekeanikgcpijaaGreatDoor
open Go.RowKit
def QE {α : Type} (l : List Tk) (E8 E9 : Er) (C : α → Prop) (P : α → Part) (r : Ans8 (α × Nat)) (y : IV) (B1 : BL) (R1 : RL) : Prop :=
 (∃ a b z x, C x ∧ r = .error (a, b) ∧ y = .tup [P x, fltP l a (erv E8 E9 b)] ∧ B1 = pB l z ∧ R1 = []) ∨ (∃ x z, r = .ok (x, z) ∧ y = .tup [P x, nilP] ∧ B1 = pB l z ∧ R1 = [])
theorem QE.tidy {α : Type} {l : List Tk} {E8 E9 : Er} {C : α → Prop} {P : α → Part} {r : Ans8 (α × Nat)} {q : Nat} (y : IV) (B1 : BL) (R1 : RL) (h : QE l E8 E9 C P r y B1 R1) : Tidy (pB l q) [] y B1 R1 := by
 rcases h with ⟨a, b, z, x, _, _, rfl, rfl, rfl⟩ | ⟨x, z, _, rfl, rfl, rfl⟩ <;> exact ⟨rfl, rfl, rfl, rfl⟩
theorem lt_of_kind {l : List Tk} {q k : Nat} (h : (tkAt l q).1.k = k) (hk : k ≠ 0) : q < l.length := by
 rcases Nat.lt_or_ge q l.length with h1 | h1
 ·exact h1
 ·refine absurd ?_ hk
  rw [← h]
  unfold tkAt
  rw [List.getD_eq_getElem?_getD, List.getElem?_eq_none h1]
  rfl
theorem name_is {l : List Tk} {q : Nat} (h : (tkAt l q).1.k = 1) : q < l.length ∧ sName l q = .ok (tkAt l q, q + 1) := by
 have hlt := lt_of_kind h (by decide)
 refine ⟨hlt, ?_⟩
 unfold sName
 rw [tkAt_lt hlt]
 exact if_pos h
theorem name_not {l : List Tk} {q : Nat} (h : (tkAt l q).1.k ≠ 1) : sName l q = .error (q, 9) := by
 unfold sName
 cases hx : l[q]? with
 | none => rfl
 | some x =>
  rw [tkAt_of hx] at h
  exact if_neg h
theorem number_is {l : List Tk} {q : Nat} (h : (tkAt l q).1.k = 2) : q < l.length ∧ sNumber l q = .ok (((tkAt l q).1.n : Int), q + 1) := by
 have hlt := lt_of_kind h (by decide)
 refine ⟨hlt, ?_⟩
 unfold sNumber
 rw [tkAt_lt hlt]
 exact if_pos h
theorem number_not {l : List Tk} {q : Nat} (h : (tkAt l q).1.k ≠ 2) : sNumber l q = .error (q, 9) := by
 unfold sNumber
 cases hx : l[q]? with
 | none => rfl
 | some x =>
  rw [tkAt_of hx] at h
  exact if_neg h
theorem text_is {l : List Tk} {q : Nat} (h : (tkAt l q).1.k = 3) : q < l.length ∧ sText l q = .ok ((tkAt l q).1.t, q + 1) := by
 have hlt := lt_of_kind h (by decide)
 refine ⟨hlt, ?_⟩
 unfold sText
 rw [tkAt_lt hlt]
 exact if_pos h
theorem text_not {l : List Tk} {q : Nat} (h : (tkAt l q).1.k ≠ 3) : sText l q = .error (q, 9) := by
 unfold sText
 cases hx : l[q]? with
 | none => rfl
 | some x =>
  rw [tkAt_of hx] at h
  exact if_neg h
set_option maxRecDepth 100000 in
set_option maxHeartbeats 1000000 in
theorem dots_g (E8 E9 : Er) (l : List Tk) (hl : PTk l) (p : Nat) (hp : p ≤ 100000) : EG Tryz.prog (gE E8 E9) 46 [.box 1 0] (pB l p) [] (QE l E8 E9 (· = []) sP (sDots l (l.length + 1) [] p)) := by
 refine eg_enter 24 Tryz.func46 rfl rfl rfl fun w D bor mb => ?_
 try refine e_fl ?_
 have hll := hl.len
 obtain ⟨rr, hrr⟩ : ∃ rr, rr = sDots l (l.length + 1) [] p := ⟨_, rfl⟩
 rw [← hrr]
 refine e_plain (w_as rfl rfl rfl rfl rfl (w_as rfl rfl rfl rfl rfl .nil)) ?_
 try refine e_fl ?_
 refine e_list ?_
 refine e_alloc 2 [.is (.pointer none), .is (.slice none 0 0)] rfl rfl rfl rfl zr_166 (fun w D M V => ⟨rfl, fun j x v h1 h2 => cfit_is _ h1 h2 rfl⟩) rfl rfl rfl rfl ?_
 refine e_nil ?_
 try refine e_fl ?_
 refine e_row_cell 2 1 200 5 1 rfl rfl rfl rfl rfl ?_
 refine e_loop (ι := { i : Nat × List UInt8 × Nat × IV // 1 ≤ i.1 ∧ l.length + 1 ≤ i.1 + i.2.2.1 ∧ i.2.2.1 ≤ 100001 ∧ i.2.1.length ≤ 100001 * i.2.2.1 + 1 ∧ (i.2.2.2 = .is (.pointer none) ∨ i.2.2.2 = .box 2 0) ∧ rr = sDots l i.1 i.2.1 i.2.2.1 })
  (fun _ => [(0, .box 1 0), (4, .box 2 0)])
  (fun i => [(1, pX l i.1.2.2.1), (2, ⟨166, [i.1.2.2.2, .own 200]⟩)])
  (fun i => bR i.1.2.1)
  (fun i => i.1.1) ⟨(l.length + 1, [], p, .is (.pointer none)), by omega, by dsimp only; omega, by dsimp only; omega, by simp, .inl rfl, hrr⟩
  (fun K => e_sub ⟨s_t, s_t, trivial⟩ ⟨s_b, s_b, trivial⟩ ⟨rfl, trivial⟩) ?_
 rintro ⟨⟨n, s, q, c0⟩, hn1, hn, hq, hs, hc0, hw⟩
 dsimp only at hn1 hn hq hs hc0 hw ⊢
 obtain ⟨m, rfl⟩ : ∃ m, n = m + 1 := ⟨n - 1, by omega⟩
 rcases hc0 with rfl | rfl
 all_goals
  rw [sDots] at hw
  try refine e_fl ?_
  refine e_list ?_
  refine l_mv ?_
  refine e_calli rfl rfl rfl rfl (by kernel_rfl) (token_g E8 E9 l hl.toTksOk q 1 (by omega)) ⟨rfl, trivial⟩ trivial ⟨(kn rfl), ⟨(kn rfl), trivial⟩⟩ (TY.tidy) ?_
  rintro _ _ _ (⟨hk, rfl, rfl, rfl⟩ | ⟨hk, rfl, rfl, rfl⟩)
  ·rw [name_not hk] at hw
   refine l_mv ?_
   refine l_ex ?_
   refine l_ex ?_
   refine e_alloc 5 [.is (.int .i64 0), .is (.string ⟨#[]⟩), .is (.int .i64 0), .is (.int .i64 0), .is (.int .i64 0)] rfl rfl rfl rfl zr_100 (fun w D M V => ⟨rfl, fun j x v h1 h2 => cfit_is _ h1 h2 rfl⟩) rfl rfl rfl rfl ?_
   refine e_storew rfl rfl rfl (kn rfl) rfl (kn rfl) rfl rfl sz_100 ?_
   refine l_as ?_
   refine e_nil ?_
   try refine e_fl ?_
   refine e_plain (w_mv rfl rfl rfl rfl rfl (w_op rfl rfl rfl (s_err_neq rfl (kn rfl) rfl ifc_28) .nil)) ?_
   try refine e_fl ?_
   refine c_yes ?_
   try refine e_fl ?_
   refine e_plain (w_mv rfl rfl rfl rfl rfl (w_as rfl rfl rfl rfl rfl (w_as rfl rfl rfl rfl rfl .nil))) ?_
   try refine e_fl ?_
   exact e_returnx (pB l q) ([]) rfl (.tmp (kn rfl) (.tmp (kn rfl) (.nil))) (Imp.refl _) ⟨s_b, trivial⟩ trivial (.inl ⟨q, 9, q, [], rfl, hw, rfl, rfl, rfl⟩)
  obtain ⟨hlt, ho⟩ := name_is hk
  have hx3 := hl.txt q
  have hne := hl.ne q hk
  rw [ho] at hw
  dsimp only at hw
  refine l_mv ?_
  refine l_ex ?_
  refine l_ex ?_
  refine e_alloc 5 [.is (.int .i64 0), .is (.string ⟨#[]⟩), .is (.int .i64 0), .is (.int .i64 0), .is (.int .i64 0)] rfl rfl rfl rfl zr_100 (fun w D M V => ⟨rfl, fun j x v h1 h2 => cfit_is _ h1 h2 rfl⟩) rfl rfl rfl rfl ?_
  refine e_storew rfl rfl rfl (kn rfl) rfl (kn rfl) rfl rfl sz_100 ?_
  refine l_as ?_
  refine e_nil ?_
  try refine e_fl ?_
  refine e_plain (w_mv rfl rfl rfl rfl rfl (w_op rfl rfl rfl (s_nil_neq rfl (kn rfl) ifc_28) .nil)) ?_
  try refine e_fl ?_
  refine c_no ?_
  try refine e_fl ?_
  refine e_list ?_
  refine l_op (s_faddr_box rfl (kn rfl) off_100_1) ?_
  refine l_op (s_load1_box rfl (kn rfl) rfl rfl one_9) ?_
  refine e_calli rfl rfl rfl rfl (by kernel_rfl) (write_g _ _ (by first | exact .inl rfl | exact .inr rfl) s (tkAt l q).1.t (by omega)) ⟨rfl, trivial⟩ ⟨rfl, trivial⟩ ⟨(kn rfl), ⟨(kn rfl), trivial⟩⟩ (BY.tidy) ?_
  rintro _ _ _ ⟨rfl, rfl, rfl⟩
  refine e_nil ?_
  try refine e_fl ?_
  refine e_list ?_
  refine l_mv ?_
  refine l_op (s_buildSlice (ds := [_]) [(0, _)] rfl ⟨rfl, (kn rfl), trivial⟩ rfl sl_45 sz_9 zr_9 (fun w D => .cons (.cell _) (.nil _ _)) rfl rfl rfl rfl rfl) ?_
  refine e_calli rfl rfl rfl rfl (by kernel_rfl) (take1 _ l hl [46] 4 rfl (by decide) (q + 1) (by omega)) ⟨rfl, trivial⟩ trivial ⟨(kn rfl), ⟨(kn rfl), trivial⟩⟩ (fun _ _ _ h => PY.tidy h.1 h.2.1 h.2.2) ?_
  rintro _ _ _ ⟨rfl, rfl, rfl⟩
  refine l_op (s_not rfl (kn rfl)) ?_
  refine e_nil ?_
  try refine e_fl ?_
  refine e_cond rfl (fun h => ?_) (fun h => ?_)
  ·have h1 := not_t h
   rw [if_neg (by rw [h1]; decide)] at hw
   rw [h1]
   try refine e_fl ?_
   refine e_list ?_
   refine e_calli rfl rfl rfl rfl (by kernel_rfl) (string_g _ _ (s ++ (tkAt l q).1.t) (fun e => hne (List.append_eq_nil_iff.1 e).2) (by simp only [List.length_append]; omega)) ⟨rfl, trivial⟩ ⟨rfl, trivial⟩ ⟨(kn rfl), trivial⟩ (StrY.tidy) ?_
   rintro _ _ _ ⟨rfl, rfl, rfl⟩
   refine l_as ?_
   refine l_as ?_
   refine e_nil ?_
   try refine e_fl ?_
   exact e_returnx (pB l (q + 1)) ([]) rfl (.tmp (kn rfl) (.tmp (kn rfl) (.nil))) (Imp.refl _) ⟨s_b, trivial⟩ trivial (.inr ⟨s ++ (tkAt l q).1.t, q + 1, hw, rfl, rfl, rfl⟩)
  have h1 := not_f h
  have hlt1 := tkIs_lt h1
  rw [if_pos h1] at hw
  rw [h1]
  try refine e_fl ?_
  refine e_list ?_
  refine e_calli rfl rfl rfl rfl (by kernel_rfl) (write_g _ (.box 2 0) (.inr rfl) (s ++ (tkAt l q).1.t) [46] (by simp only [List.length_append, List.length_cons, List.length_nil]; omega)) ⟨rfl, trivial⟩ ⟨rfl, trivial⟩ ⟨(kn rfl), ⟨(kn rfl), trivial⟩⟩ (BY.tidy) ?_
  rintro _ _ _ ⟨rfl, rfl, rfl⟩
  refine e_nil ?_
  try refine e_fl ?_
  refine e_again ⟨(m, s ++ (tkAt l q).1.t ++ [46], q + 1 + 1, .box 2 0), by omega, by dsimp only; omega, by dsimp only; omega, by simp only [List.length_append, List.length_cons, List.length_nil]; omega, .inr rfl, hw⟩ (by dsimp only; omega) (fun K => e_sub ⟨s_t, s_t, trivial⟩ ⟨s_b, s_b, trivial⟩ ⟨rfl, trivial⟩)
theorem sDots_pre {l : List Tk} (a : List UInt8) : ∀ (n : Nat) (s : List UInt8) (p : Nat), sDots l n (a ++ s) p = match sDots l n s p with | .error e => .error e | .ok (t, q) => .ok (a ++ t, q)
 | 0, s, p => rfl
 | n + 1, s, p => by
  rw [sDots, sDots]
  cases sName l p with
  | error e => rfl
  | ok x =>
   obtain ⟨x, q⟩ := x
   dsimp only
   split
   ·rw [← sDots_pre a n (s ++ x.1.t ++ [46]) (q + 1)]
    simp [List.append_assoc]
   ·simp [List.append_assoc]
theorem sDots_len {l : List Tk} (hl : TksOk l) : ∀ (n : Nat) (s : List UInt8) (p : Nat) {t : List UInt8} {q : Nat}, sDots l n s p = .ok (t, q) → t.length + 100001 * p ≤ s.length + 100001 * q
 | 0, s, p, t, q, h => by cases h
 | n + 1, s, p, t, q, h => by
  unfold sDots at h
  split at h
  ·cases h
  rename_i x r hx
  obtain ⟨h1, h2, h3, _⟩ := sName_ok hx
  have h4 := hl.txt p
  rw [tkAt_of h3] at h4
  split at h
  ·have := sDots_len hl n _ _ h
   simp only [List.length_append, List.length_cons, List.length_nil] at this
   omega
  ·injection h with h
   injection h with h5 h6
   subst h5 h6
   simp only [List.length_append]
   omega
theorem sDotted_pt {l : List Tk} {p : Nat} (h : tkIs l p 4 [46] = true) : sDotted l true p = match sDots l (l.length + 1) [] (p + 1) with | .error e => .error e | .ok (t, q) => .ok ([46] ++ t, q) := by
 unfold sDotted
 rw [h, ← sDots_pre]
 rfl
theorem sDotted_no {l : List Tk} {p : Nat} (h : tkIs l p 4 [46] = false) : sDotted l true p = sDots l (l.length + 1) [] p := by
 unfold sDotted
 rw [h]
 rfl
set_option maxRecDepth 100000 in
theorem typeName_g (E8 E9 : Er) (l : List Tk) (hl : PTk l) (p : Nat) (hp : p ≤ 100000) : EG Tryz.prog (gE E8 E9) 118 [.box 1 0] (pB l p) [] (QE l E8 E9 (fun x => x.length ≤ 10) sP (sDotted l true p)) := by
 refine eg_enter 19 Tryz.func118 rfl rfl rfl fun w D bor mb => ?_
 try refine e_fl ?_
 have hll := hl.len
 refine e_plain (w_as rfl rfl rfl rfl rfl (w_as rfl rfl rfl rfl rfl .nil)) ?_
 try refine e_fl ?_
 refine e_plain (w_as rfl rfl rfl rfl rfl .nil) ?_
 try refine e_fl ?_
 refine e_list ?_
 refine l_mv ?_
 refine l_op (s_buildSlice (ds := [_]) [(0, _)] rfl ⟨rfl, (kn rfl), trivial⟩ rfl sl_45 sz_9 zr_9 (fun w D => .cons (.cell _) (.nil _ _)) rfl rfl rfl rfl rfl) ?_
 refine e_calli rfl rfl rfl rfl (by kernel_rfl) (take1 _ l hl [46] 4 rfl (by decide) p (by omega)) ⟨rfl, trivial⟩ trivial ⟨(kn rfl), ⟨(kn rfl), trivial⟩⟩ (fun _ _ _ h => PY.tidy h.1 h.2.1 h.2.2) ?_
 rintro _ _ _ ⟨rfl, rfl, rfl⟩
 refine e_nil ?_
 try refine e_fl ?_
 refine e_cond rfl (fun h => ?_) (fun h => ?_)
 ·have hlt := tkIs_lt h
  have hw := sDotted_pt h
  rw [h]
  try refine e_fl ?_
  refine e_plain (w_as rfl rfl rfl rfl rfl .nil) ?_
  try refine e_fl ?_
  refine e_list ?_
  refine l_mv ?_
  refine e_calli rfl rfl rfl rfl (by kernel_rfl) (dots_g E8 E9 l hl (p + 1) (by omega)) ⟨rfl, trivial⟩ trivial ⟨(kn rfl), trivial⟩ (QE.tidy) ?_
  rintro _ _ _ (⟨a, b, z, x, rfl, he, rfl, rfl, rfl⟩ | ⟨x, z, he, rfl, rfl, rfl⟩)
  ·refine l_mv ?_
   refine l_ex ?_
   refine l_ex ?_
   refine l_as ?_
   refine l_as ?_
   refine e_nil ?_
   try refine e_fl ?_
   refine e_plain (w_mv rfl rfl rfl rfl rfl (w_mv rfl rfl rfl rfl rfl (w_op rfl rfl rfl (s_bin rfl (kn rfl) (kn rfl) (v_sadd (by first | omega | (simp only [List.length_append, List.length_cons, List.length_nil]; omega)))) (w_mv rfl rfl rfl rfl rfl (w_as rfl rfl rfl rfl rfl (w_as rfl rfl rfl rfl rfl .nil)))))) ?_
   try refine e_fl ?_
   exact e_returnx (pB l z) ([]) rfl (.tmp (kn rfl) (.tmp (kn rfl) (.nil))) (Imp.refl _) ⟨s_b, trivial⟩ trivial (.inl ⟨a, b, z, [46] ++ [], by simp, by rw [hw]; simp [he], rfl, rfl, rfl⟩)
  have hsl := sDots_len hl.toTksOk _ _ _ he
  simp only [List.length_nil] at hsl
  have hst := sDots_ok _ _ _ he
  refine l_mv ?_
  refine l_ex ?_
  refine l_ex ?_
  refine l_as ?_
  refine l_as ?_
  refine e_nil ?_
  try refine e_fl ?_
  refine e_plain (w_mv rfl rfl rfl rfl rfl (w_mv rfl rfl rfl rfl rfl (w_op rfl rfl rfl (s_bin rfl (kn rfl) (kn rfl) (v_sadd (by first | omega | (simp only [List.length_append, List.length_cons, List.length_nil]; omega)))) (w_mv rfl rfl rfl rfl rfl (w_as rfl rfl rfl rfl rfl (w_as rfl rfl rfl rfl rfl .nil)))))) ?_
  try refine e_fl ?_
  exact e_returnx (pB l z) ([]) rfl (.tmp (kn rfl) (.tmp (kn rfl) (.nil))) (Imp.refl _) ⟨s_b, trivial⟩ trivial (.inr ⟨[46] ++ x, z, by rw [hw]; simp [he], rfl, rfl, rfl⟩)
 ·have hw := sDotted_no h
  rw [h]
  try refine e_fl ?_
  refine e_list ?_
  refine l_mv ?_
  refine e_calli rfl rfl rfl rfl (by kernel_rfl) (dots_g E8 E9 l hl (p) (by omega)) ⟨rfl, trivial⟩ trivial ⟨(kn rfl), trivial⟩ (QE.tidy) ?_
  rintro _ _ _ (⟨a, b, z, x, rfl, he, rfl, rfl, rfl⟩ | ⟨x, z, he, rfl, rfl, rfl⟩)
  ·refine l_mv ?_
   refine l_ex ?_
   refine l_ex ?_
   refine l_as ?_
   refine l_as ?_
   refine e_nil ?_
   try refine e_fl ?_
   refine e_plain (w_mv rfl rfl rfl rfl rfl (w_mv rfl rfl rfl rfl rfl (w_op rfl rfl rfl (s_bin rfl (kn rfl) (kn rfl) (v_sadd (by first | omega | (simp only [List.length_append, List.length_cons, List.length_nil]; omega)))) (w_mv rfl rfl rfl rfl rfl (w_as rfl rfl rfl rfl rfl (w_as rfl rfl rfl rfl rfl .nil)))))) ?_
   try refine e_fl ?_
   exact e_returnx (pB l z) ([]) rfl (.tmp (kn rfl) (.tmp (kn rfl) (.nil))) (Imp.refl _) ⟨s_b, trivial⟩ trivial (.inl ⟨a, b, z, [] ++ [], by simp, by rw [hw]; simp [he], rfl, rfl, rfl⟩)
  have hsl := sDots_len hl.toTksOk _ _ _ he
  simp only [List.length_nil] at hsl
  have hst := sDots_ok _ _ _ he
  refine l_mv ?_
  refine l_ex ?_
  refine l_ex ?_
  refine l_as ?_
  refine l_as ?_
  refine e_nil ?_
  try refine e_fl ?_
  refine e_plain (w_mv rfl rfl rfl rfl rfl (w_mv rfl rfl rfl rfl rfl (w_op rfl rfl rfl (s_bin rfl (kn rfl) (kn rfl) (v_sadd (by first | omega | (simp only [List.length_append, List.length_cons, List.length_nil]; omega)))) (w_mv rfl rfl rfl rfl rfl (w_as rfl rfl rfl rfl rfl (w_as rfl rfl rfl rfl rfl .nil)))))) ?_
  try refine e_fl ?_
  exact e_returnx (pB l z) ([]) rfl (.tmp (kn rfl) (.tmp (kn rfl) (.nil))) (Imp.refl _) ⟨s_b, trivial⟩ trivial (.inr ⟨[] ++ x, z, by rw [hw]; simp [he], rfl, rfl, rfl⟩)
def sUpper (l : List Tk) (p : Nat) : Ans8 (Int × Nat) := if tkIs l p 1 [109, 97, 120] then .ok (536870911, p + 1) else sNumber l p
set_option maxRecDepth 100000 in
theorem upper_g (E8 E9 : Er) (l : List Tk) (hl : PTk l) (p : Nat) (hp : p ≤ 100000) : EG Tryz.prog (gE E8 E9) 121 [.box 1 0] (pB l p) [] (QE l E8 E9 (fun _ => True) iP (sUpper l p)) := by
 refine eg_enter 17 Tryz.func121 rfl rfl rfl fun w D bor mb => ?_
 try refine e_fl ?_
 have hll := hl.len
 refine e_plain (w_as rfl rfl rfl rfl rfl (w_as rfl rfl rfl rfl rfl .nil)) ?_
 try refine e_fl ?_
 refine e_list ?_
 refine l_mv ?_
 refine l_op (s_buildSlice (ds := [_]) [(0, _)] rfl ⟨rfl, (kn rfl), trivial⟩ rfl sl_45 sz_9 zr_9 (fun w D => .cons (.cell _) (.nil _ _)) rfl rfl rfl rfl rfl) ?_
 refine e_calli rfl rfl rfl rfl (by kernel_rfl) (take1 _ l hl [109, 97, 120] 1 rfl (by decide) p (by omega)) ⟨rfl, trivial⟩ trivial ⟨(kn rfl), ⟨(kn rfl), trivial⟩⟩ (fun _ _ _ h => PY.tidy h.1 h.2.1 h.2.2) ?_
 rintro _ _ _ ⟨rfl, rfl, rfl⟩
 refine e_nil ?_
 try refine e_fl ?_
 refine e_cond rfl (fun h => ?_) (fun h => ?_)
 ·have hw : sUpper l p = .ok (536870911, p + 1) := if_pos h
  rw [h]
  try refine e_fl ?_
  refine e_plain (w_as rfl rfl rfl rfl rfl (w_as rfl rfl rfl rfl rfl .nil)) ?_
  try refine e_fl ?_
  exact e_returnx (pB l (p + 1)) ([]) rfl (.tmp (kn rfl) (.tmp (kn rfl) (.nil))) (Imp.refl _) ⟨s_b, trivial⟩ trivial (.inr ⟨536870911, p + 1, hw, rfl, rfl, rfl⟩)
 have hw : sUpper l p = sNumber l p := if_neg (by rw [h]; decide)
 rw [h]
 try refine e_fl ?_
 refine e_list ?_
 refine l_mv ?_
 refine e_calli rfl rfl rfl rfl (by kernel_rfl) (token_g E8 E9 l hl.toTksOk p 2 (by omega)) ⟨rfl, trivial⟩ trivial ⟨(kn rfl), ⟨(kn rfl), trivial⟩⟩ (TY.tidy) ?_
 rintro _ _ _ (⟨hk, rfl, rfl, rfl⟩ | ⟨hk, rfl, rfl, rfl⟩)
 ·refine l_mv ?_
  refine l_ex ?_
  refine l_ex ?_
  refine e_alloc 4 [.is (.int .i64 0), .is (.string ⟨#[]⟩), .is (.int .i64 0), .is (.int .i64 0), .is (.int .i64 0)] rfl rfl rfl rfl zr_100 (fun w D M V => ⟨rfl, fun j x v h1 h2 => cfit_is _ h1 h2 rfl⟩) rfl rfl rfl rfl ?_
  refine e_storew rfl rfl rfl (kn rfl) rfl (kn rfl) rfl rfl sz_100 ?_
  refine l_as ?_
  refine e_nil ?_
  try refine e_fl ?_
  refine e_plain (w_op rfl rfl rfl (s_faddr_box rfl (kn rfl) off_100_2) (w_op rfl rfl rfl (s_load1_box rfl (kn rfl) rfl rfl one_3) (w_mv rfl rfl rfl rfl rfl (w_as rfl rfl rfl rfl rfl (w_as rfl rfl rfl rfl rfl .nil))))) ?_
  try refine e_fl ?_
  exact e_returnx (pB l p) ([]) rfl (.tmp (kn rfl) (.tmp (kn rfl) (.nil))) (Imp.refl _) ⟨s_b, trivial⟩ trivial (.inl ⟨p, 9, p, 0, trivial, hw.trans (number_not hk), rfl, rfl, rfl⟩)
 refine l_mv ?_
 refine l_ex ?_
 refine l_ex ?_
 refine e_alloc 4 [.is (.int .i64 0), .is (.string ⟨#[]⟩), .is (.int .i64 0), .is (.int .i64 0), .is (.int .i64 0)] rfl rfl rfl rfl zr_100 (fun w D M V => ⟨rfl, fun j x v h1 h2 => cfit_is _ h1 h2 rfl⟩) rfl rfl rfl rfl ?_
 refine e_storew rfl rfl rfl (kn rfl) rfl (kn rfl) rfl rfl sz_100 ?_
 refine l_as ?_
 refine e_nil ?_
 try refine e_fl ?_
 refine e_plain (w_op rfl rfl rfl (s_faddr_box rfl (kn rfl) off_100_2) (w_op rfl rfl rfl (s_load1_box rfl (kn rfl) rfl rfl one_3) (w_mv rfl rfl rfl rfl rfl (w_as rfl rfl rfl rfl rfl (w_as rfl rfl rfl rfl rfl .nil))))) ?_
 try refine e_fl ?_
 exact e_returnx (pB l (p + 1)) ([]) rfl (.tmp (kn rfl) (.tmp (kn rfl) (.nil))) (Imp.refl _) ⟨s_b, trivial⟩ trivial (.inr ⟨(tkAt l p).1.n, p + 1, hw.trans (number_is hk).2, rfl, rfl, rfl⟩)
end Go.Proofs.YtekeanikgcpijaaGreatDoor
namespace Go.Proofs.YtekeanikgcpijaaGreatDoor
open Go.RowKit
def ME {σ : Type} (l : List Tk) (E8 E9 : Er) (S : σ → Nat → BL) (U : σ → RL) (r : Ans8 (σ × Nat)) (y : IV) (B1 : BL) (R1 : RL) : Prop :=
 (∃ a b z x, r = .error (a, b) ∧ y = .part (fltP l a (erv E8 E9 b)) ∧ B1 = S x z ∧ R1 = U x) ∨ (∃ x z, r = .ok (x, z) ∧ y = .part nilP ∧ B1 = S x z ∧ R1 = U x)
abbrev fX (f : Fld) : Bx := ⟨110, bcs f.dats⟩
abbrev fB (l : List Tk) (f : Fld) (q : Nat) : BL := [(1, pX l q), (2, fX f)]
abbrev FE (l : List Tk) (E8 E9 : Er) (r : Ans8 (Fld × Nat)) (y : IV) (B1 : BL) (R1 : RL) : Prop := ME l E8 E9 (fB l) (fun _ => []) r y B1 R1
theorem FE.tidy {l : List Tk} {E8 E9 : Er} {r : Ans8 (Fld × Nat)} {f : Fld} {q : Nat} (y : IV) (B1 : BL) (R1 : RL) (h : FE l E8 E9 r y B1 R1) : Tidy (fB l f q) [] y B1 R1 := by
 rcases h with ⟨a, b, z, x, _, rfl, rfl, rfl⟩ | ⟨x, z, _, rfl, rfl, rfl⟩ <;> exact ⟨rfl, rfl, rfl, rfl⟩
def sPacked (l : List Tk) (f : Fld) (p : Nat) : Ans8 (Fld × Nat) :=
  match sWant l 4 [61] p with
  | .error e => .error e
  | .ok q =>
   if tkIs l q 1 [116, 114, 117, 101] then .ok ({ f with packed := 1 }, q + 1)
   else if tkIs l q 1 [102, 97, 108, 115, 101] then .ok ({ f with packed := 2 }, q + 1)
   else form8 q
def sKey (l : List Tk) (f : Fld) (p : Nat) : Ans8 (Fld × Nat) :=
  match sWant l 4 [61] p with
  | .error e => .error e
  | .ok q =>
   match sName l q with
   | .error e => .error e
   | .ok (x, r) => .ok ({ f with key := x.1.t }, r)
theorem want1_g (E8 E9 : Er) (l : List Tk) (hl : PTk l) (k : Nat) (t : List UInt8) (hk : kindT t = k) (hws : t ∈ ws) (q : Nat) (hq : q ≤ 120000) :
  EG Tryz.prog (gE E8 E9) 47 [.box 1 0, .part (txsP [t])] (pB l q) [] (PE l E8 E9 (sWant l k t q)) := by
 have h := want_g E8 E9 l hl [t] (by simp) (by simpa using hws) q hq
 rw [sWants_one, hk] at h
 exact h
set_option maxRecDepth 100000 in
theorem packed_g (E8 E9 : Er) (l : List Tk) (hl : PTk l) (f : Fld) (p : Nat) (hp : p ≤ 100001) : EG Tryz.prog (gE E8 E9) 124 [.box 1 0, .box 2 0] (fB l f p) [] (FE l E8 E9 (sPacked l f p)) := by
 refine eg_enter 28 Tryz.func124 rfl rfl rfl fun w D bor mb => ?_
 try refine e_fl ?_
 have hll := hl.len
 refine e_plain (w_as rfl rfl rfl rfl rfl .nil) ?_
 try refine e_fl ?_
 refine e_list ?_
 refine l_mv ?_
 refine l_op (s_buildSlice (ds := [_]) [(0, _)] rfl ⟨rfl, (kn rfl), trivial⟩ rfl sl_45 sz_9 zr_9 (fun w D => .cons (.cell _) (.nil _ _)) rfl rfl rfl rfl rfl) ?_
 refine e_calli rfl rfl rfl rfl (by kernel_rfl) (want1_g E8 E9 l hl 4 [61] rfl (by decide) p (by omega)) ⟨rfl, trivial⟩ trivial ⟨(kn rfl), ⟨(kn rfl), trivial⟩⟩ (PE.tidy) ?_
 rintro _ _ _ (⟨a, b, z, he, rfl, rfl, rfl⟩ | ⟨q, ho, rfl, rfl, rfl⟩)
 ·refine l_as ?_
  refine e_nil ?_
  try refine e_fl ?_
  refine e_plain (w_mv rfl rfl rfl rfl rfl (w_op rfl rfl rfl (s_err_neq rfl (kn rfl) rfl ifc_28) .nil)) ?_
  try refine e_fl ?_
  refine c_yes ?_
  try refine e_fl ?_
  refine e_plain (w_mv rfl rfl rfl rfl rfl (w_as rfl rfl rfl rfl rfl .nil)) ?_
  try refine e_fl ?_
  exact e_returnx (fB l f z) ([]) rfl (.tmp (kn rfl) (.nil)) (Imp.refl _) ⟨s_b, s_b, trivial⟩ trivial (.inl ⟨a, b, z, f, by simp only [sPacked, he], rfl, rfl, rfl⟩)
 refine l_as ?_
 refine e_nil ?_
 try refine e_fl ?_
 refine e_plain (w_mv rfl rfl rfl rfl rfl (w_op rfl rfl rfl (s_nil_neq rfl (kn rfl) ifc_28) .nil)) ?_
 try refine e_fl ?_
 refine c_no ?_
 try refine e_fl ?_
 have ho1 := sWant_ok ho
 refine e_list ?_
 refine l_mv ?_
 refine l_op (s_buildSlice (ds := [_]) [(0, _)] rfl ⟨rfl, (kn rfl), trivial⟩ rfl sl_45 sz_9 zr_9 (fun w D => .cons (.cell _) (.nil _ _)) rfl rfl rfl rfl rfl) ?_
 refine e_calli rfl rfl rfl rfl (by kernel_rfl) (take1 _ l hl [116, 114, 117, 101] 1 rfl (by decide) q (by omega)) ⟨rfl, trivial⟩ trivial ⟨(kn rfl), ⟨(kn rfl), trivial⟩⟩ (fun _ _ _ h => PY.tidy h.1 h.2.1 h.2.2) ?_
 rintro _ _ _ ⟨rfl, rfl, rfl⟩
 refine l_as ?_
 refine e_nil ?_
 try refine e_fl ?_
 refine e_cond rfl (fun h => ?_) (fun h => ?_)
 ·rw [h]
  try refine e_fl ?_
  refine e_list ?_
  refine l_mv ?_
  refine l_op (s_nil_box rfl (kn rfl)) ?_
  refine l_op (s_faddr_box rfl (kn rfl) off_110_6) ?_
  refine e_store1 rfl rfl rfl (kn rfl) rfl (kn rfl) rfl rfl sz_3 rfl ?_
  refine e_nil ?_
  try refine e_fl ?_
  refine e_plain (w_as rfl rfl rfl rfl rfl .nil) ?_
  try refine e_fl ?_
  exact e_returnx (fB l { f with packed := 1 } (q + 1)) ([]) rfl (.tmp (kn rfl) (.nil)) (Imp.refl _) ⟨s_b, s_b, trivial⟩ trivial (.inr ⟨{ f with packed := 1 }, q + 1, by simp only [sPacked, ho, h, if_true], rfl, rfl, rfl⟩)
 rw [h]
 try refine e_fl ?_
 refine e_list ?_
 refine l_mv ?_
 refine l_op (s_buildSlice (ds := [_]) [(0, _)] rfl ⟨rfl, (kn rfl), trivial⟩ rfl sl_45 sz_9 zr_9 (fun w D => .cons (.cell _) (.nil _ _)) rfl rfl rfl rfl rfl) ?_
 refine e_calli rfl rfl rfl rfl (by kernel_rfl) (take1 _ l hl [102, 97, 108, 115, 101] 1 rfl (by decide) q (by omega)) ⟨rfl, trivial⟩ trivial ⟨(kn rfl), ⟨(kn rfl), trivial⟩⟩ (fun _ _ _ h => PY.tidy h.1 h.2.1 h.2.2) ?_
 rintro _ _ _ ⟨rfl, rfl, rfl⟩
 refine l_as ?_
 refine e_nil ?_
 try refine e_fl ?_
 refine e_cond rfl (fun h1 => ?_) (fun h1 => ?_)
 ·rw [h1]
  try refine e_fl ?_
  refine e_list ?_
  refine l_mv ?_
  refine l_op (s_nil_box rfl (kn rfl)) ?_
  refine l_op (s_faddr_box rfl (kn rfl) off_110_6) ?_
  refine e_store1 rfl rfl rfl (kn rfl) rfl (kn rfl) rfl rfl sz_3 rfl ?_
  refine e_nil ?_
  try refine e_fl ?_
  refine e_plain (w_as rfl rfl rfl rfl rfl .nil) ?_
  try refine e_fl ?_
  exact e_returnx (fB l { f with packed := 2 } (q + 1)) ([]) rfl (.tmp (kn rfl) (.nil)) (Imp.refl _) ⟨s_b, s_b, trivial⟩ trivial (.inr ⟨{ f with packed := 2 }, q + 1, by simp only [sPacked, ho, h, h1, if_true]; rfl, rfl, rfl, rfl⟩)
 rw [h1]
 try refine e_fl ?_
 refine e_list ?_
 refine l_mv ?_
 refine e_calli rfl rfl rfl rfl (by kernel_rfl) (misfit_g E8 E9 l hl.toTksOk q (by omega)) ⟨rfl, trivial⟩ trivial ⟨(kn rfl), trivial⟩ (fun _ _ _ h => PY.tidy h.1 h.2.1 h.2.2) ?_
 rintro _ _ _ ⟨rfl, rfl, rfl⟩
 refine l_as ?_
 refine e_nil ?_
 try refine e_fl ?_
 exact e_returnx (fB l f q) ([]) rfl (.tmp (kn rfl) (.nil)) (Imp.refl _) ⟨s_b, s_b, trivial⟩ trivial (.inl ⟨q, 9, q, f, by simp only [sPacked, ho, h, h1]; rfl, rfl, rfl, rfl⟩)
set_option maxRecDepth 100000 in
theorem key_g (E8 E9 : Er) (l : List Tk) (hl : PTk l) (f : Fld) (p : Nat) (hp : p ≤ 100001) : EG Tryz.prog (gE E8 E9) 125 [.box 1 0, .box 2 0] (fB l f p) [] (FE l E8 E9 (sKey l f p)) := by
 refine eg_enter 27 Tryz.func125 rfl rfl rfl fun w D bor mb => ?_
 try refine e_fl ?_
 have hll := hl.len
 refine e_plain (w_as rfl rfl rfl rfl rfl .nil) ?_
 try refine e_fl ?_
 refine e_list ?_
 refine l_mv ?_
 refine l_op (s_buildSlice (ds := [_]) [(0, _)] rfl ⟨rfl, (kn rfl), trivial⟩ rfl sl_45 sz_9 zr_9 (fun w D => .cons (.cell _) (.nil _ _)) rfl rfl rfl rfl rfl) ?_
 refine e_calli rfl rfl rfl rfl (by kernel_rfl) (want1_g E8 E9 l hl 4 [61] rfl (by decide) p (by omega)) ⟨rfl, trivial⟩ trivial ⟨(kn rfl), ⟨(kn rfl), trivial⟩⟩ (PE.tidy) ?_
 rintro _ _ _ (⟨a, b, z, he, rfl, rfl, rfl⟩ | ⟨q, ho, rfl, rfl, rfl⟩)
 ·refine l_as ?_
  refine e_nil ?_
  try refine e_fl ?_
  refine e_plain (w_mv rfl rfl rfl rfl rfl (w_op rfl rfl rfl (s_err_neq rfl (kn rfl) rfl ifc_28) .nil)) ?_
  try refine e_fl ?_
  refine c_yes ?_
  try refine e_fl ?_
  refine e_plain (w_mv rfl rfl rfl rfl rfl (w_as rfl rfl rfl rfl rfl .nil)) ?_
  try refine e_fl ?_
  exact e_returnx (fB l f z) ([]) rfl (.tmp (kn rfl) (.nil)) (Imp.refl _) ⟨s_b, s_b, trivial⟩ trivial (.inl ⟨a, b, z, f, by simp only [sKey, he], rfl, rfl, rfl⟩)
 refine l_as ?_
 refine e_nil ?_
 try refine e_fl ?_
 refine e_plain (w_mv rfl rfl rfl rfl rfl (w_op rfl rfl rfl (s_nil_neq rfl (kn rfl) ifc_28) .nil)) ?_
 try refine e_fl ?_
 refine c_no ?_
 try refine e_fl ?_
 have ho1 := sWant_ok ho
 refine e_list ?_
 refine l_mv ?_
 refine e_calli rfl rfl rfl rfl (by kernel_rfl) (token_g E8 E9 l hl.toTksOk (q) 1 (by omega)) ⟨rfl, trivial⟩ trivial ⟨(kn rfl), ⟨(kn rfl), trivial⟩⟩ (TY.tidy) ?_
 rintro _ _ _ (⟨hk, rfl, rfl, rfl⟩ | ⟨hk, rfl, rfl, rfl⟩)
 ·refine l_mv ?_
  refine l_ex ?_
  refine l_ex ?_
  refine e_alloc 6 [.is (.int .i64 0), .is (.string ⟨#[]⟩), .is (.int .i64 0), .is (.int .i64 0), .is (.int .i64 0)] rfl rfl rfl rfl zr_100 (fun w D M V => ⟨rfl, fun j x v h1 h2 => cfit_is _ h1 h2 rfl⟩) rfl rfl rfl rfl ?_
  refine e_storew rfl rfl rfl (kn rfl) rfl (kn rfl) rfl rfl sz_100 ?_
  refine l_as ?_
  refine e_nil ?_
  try refine e_fl ?_
  refine e_plain (w_mv rfl rfl rfl rfl rfl (w_op rfl rfl rfl (s_err_neq rfl (kn rfl) rfl ifc_28) .nil)) ?_
  try refine e_fl ?_
  refine c_yes ?_
  try refine e_fl ?_
  refine e_plain (w_mv rfl rfl rfl rfl rfl (w_as rfl rfl rfl rfl rfl .nil)) ?_
  try refine e_fl ?_
  exact e_returnx (fB l f q) ([]) rfl (.tmp (kn rfl) (.nil)) (Imp.refl _) ⟨s_b, s_b, trivial⟩ trivial (.inl ⟨q, 9, q, f, by simp only [sKey, ho, name_not hk], rfl, rfl, rfl⟩)
 refine l_mv ?_
 refine l_ex ?_
 refine l_ex ?_
 refine e_alloc 6 [.is (.int .i64 0), .is (.string ⟨#[]⟩), .is (.int .i64 0), .is (.int .i64 0), .is (.int .i64 0)] rfl rfl rfl rfl zr_100 (fun w D M V => ⟨rfl, fun j x v h1 h2 => cfit_is _ h1 h2 rfl⟩) rfl rfl rfl rfl ?_
 refine e_storew rfl rfl rfl (kn rfl) rfl (kn rfl) rfl rfl sz_100 ?_
 refine l_as ?_
 refine e_nil ?_
 try refine e_fl ?_
 refine e_plain (w_mv rfl rfl rfl rfl rfl (w_op rfl rfl rfl (s_nil_neq rfl (kn rfl) ifc_28) .nil)) ?_
 try refine e_fl ?_
 refine c_no ?_
 try refine e_fl ?_
 refine e_list ?_
 refine l_mv ?_
 refine l_op (s_faddr_box rfl (kn rfl) off_100_1) ?_
 refine l_op (s_load1_box rfl (kn rfl) rfl rfl one_9) ?_
 refine l_op (s_nil_box rfl (kn rfl)) ?_
 refine l_op (s_faddr_box rfl (kn rfl) off_110_3) ?_
 refine e_store1 rfl rfl rfl (kn rfl) rfl (kn rfl) rfl rfl sz_9 rfl ?_
 refine e_nil ?_
 try refine e_fl ?_
 refine e_plain (w_as rfl rfl rfl rfl rfl .nil) ?_
 try refine e_fl ?_
 exact e_returnx (fB l { f with key := (tkAt l q).1.t } (q + 1)) ([]) rfl (.tmp (kn rfl) (.nil)) (Imp.refl _) ⟨s_b, s_b, trivial⟩ trivial (.inr ⟨{ f with key := (tkAt l q).1.t }, q + 1, by simp only [sKey, ho, (name_is hk).2], rfl, rfl, rfl⟩)
end Go.Proofs.YtekeanikgcpijaaGreatDoor
