/- Part 36 of what the last text of this claim is proved by: walks over the program, and the math behind them. Conditions: as each theorem says. -/
import Derived.Test.YtekeanikgcpijaaGreatDoorST35
import Derived.Test.YtekeanikgcpijaaGreatDoorProg
import Derived.ProofKit
import Derived.LaidMore
import Derived.LaidLaws
import Derived.Stop.LaidErr
import Derived.MakeChecks
import Derived.Test.YtekeanikgcpijaaGreatDoorRows
import Derived.LaidHandle
import Derived.HandedShaped
namespace Go.Proofs.YtekeanikgcpijaaGreatDoor
open Go.RowKit
abbrev DupE (A : Nat → Addr) : Er := (tE, .pointer (some (A 10)))
abbrev LongE (A : Nat → Addr) : Er := (tE, .pointer (some (A 2)))
abbrev glB (A : Nat → Addr) (m : Int) : List (Nat × List Value) := (1, [errV A 10]) :: glA A m
theorem glB_of (A : Nat → Addr) (m : Int) : OfG (glB A m) A m := by
  have h := glA_of A m
  exact ⟨⟨List.mem_cons_of_mem _ h.lx.range, List.mem_cons_of_mem _ h.lx.long, List.mem_cons_of_mem _ h.lx.form, List.mem_cons_of_mem _ h.lx.max⟩, fun x hx => List.mem_cons_of_mem _ (h.sub x hx)⟩
theorem glB_sub (A : Nat → Addr) (m : Int) : ∀ x, x ∈ gS (DupE A) (LongE A) → x ∈ glB A m := fun x hx => by
  rcases List.mem_cons.1 hx with rfl | hx
  · exact List.mem_cons_self
  · rcases List.mem_cons.1 hx with rfl | hx
    · exact (glB_of A m).lx.long
    · cases hx
theorem glB_ok {A : Nat → Addr} {m : Int} {w : World} (hE : Errs w A) (hL : Lx w A m) : GlOK (glB A m) w := fun g cs hg => by
  rcases List.mem_cons.1 hg with e | hg
  · obtain ⟨rfl, rfl⟩ := Prod.mk.inj e
    have h : w.cell? ⟨_, 0, none⟩ = some (errV A 10) := hE.holds 10 _ rfl
    exact ⟨World.block_lt_of_cell? w _ h, fun j u hu => by
      cases j with
      | zero => cases hu; exact h
      | succ j => cases hu⟩
  · exact glA_ok hE hL g cs hg
theorem of_one {gls : List (Nat × List Value)} {A : Nat → Addr} {m : Int} (hg : OfG gls A m) (s : List UInt8) :
    (∃ f, FOk 40 f ∧ (tyFile f).length ≤ 100000 ∧ EF Tryz.prog gls 6 [sP s] (.tup [FQ f, nilP])) ∨ ∃ f li co n, EF Tryz.prog gls 6 [sP s] (.tup [FQ f, fltR A li co n]) := by
  by_cases hs : s.length ≤ 4000
  · obtain ⟨T, b, ea, hT⟩ := lex_total s s.length 0 (by omega)
    have h1 := of_y hg s hs T b ea hT
    by_cases h0 : b = 0
    · have ha : sAns s T b ea = sParse (tksOf s T) := if_pos h0
      have hk := tksOf_ok hs hT
      rw [ha] at h1
      cases hf : sFile (tksOf s T) with
      | ok f =>
        rw [sParse_fil hf] at h1
        obtain ⟨h2, h3⟩ := sFile_nm (by decide) hk.len (tksOf_words hT) hf
        exact .inl ⟨f, h2, h3, h1⟩
      | error e =>
        obtain ⟨hp, hc⟩ := sParse_err hf
        rw [hp] at h1
        have hne : e.2 ≠ 0 := by rcases hc with hc | hc <;> (rw [hc]; decide)
        simp only [progY, if_neg hne] at h1
        exact .inr ⟨fil0, _, _, e.2, h1⟩
    · have ha : sAns s T b ea = (fil0, b, (placeAt s ea).1, (placeAt s ea).2) := if_neg h0
      rw [ha] at h1
      simp only [progY, if_neg h0] at h1
      exact .inr ⟨fil0, _, _, b, h1⟩
  · exact .inr ⟨fil0, 0, 0, 3, of_l hg s (by omega)⟩
abbrev alK (n : List UInt8) (m : List Msg) : Msg := .mk n [] [] m [] [] [] 0 0
abbrev alF : Fil := ⟨[112], [alK [77] [alK [78] []], alK [78] []], []⟩
abbrev alL : List Ty := [⟨[112, 46, 77], false, 0, 0, 0⟩, ⟨[112, 46, 77, 46, 78], false, 1, 0, 0⟩, ⟨[112, 46, 78], false, 2, 0, 0⟩]
theorem alT : table alF = .ok alL := by kernel_rfl
theorem alNm (c : UInt8) (h : c ≠ 46) : NmOk 40 [c] := ⟨by simp, by simp, by simp; exact Ne.symm h⟩
theorem alOk : FOk 40 alF := by
  have hN : NmOk 40 [78] := alNm 78 (by decide)
  have hM : NmOk 40 [77] := alNm 77 (by decide)
  have f1 : (alK [78] []).fine := (Msg.fine_iff _).2 ⟨Nat.zero_le _, Nat.zero_le _, Nat.zero_le _, Nat.zero_le _, Nat.zero_le _, Nat.zero_le _, fun x hx => (by cases hx), fun k hk => (by cases hk)⟩
  have f2 : (alK [77] [alK [78] []]).fine := (Msg.fine_iff _).2 ⟨Nat.zero_le _, Nat.zero_le _, by decide, Nat.zero_le _, Nat.zero_le _, Nat.zero_le _, fun x hx => (by cases hx), fun k hk => by rw [List.mem_singleton.1 hk]; exact f1⟩
  refine ⟨⟨by decide, Nat.zero_le _, fun x hx => (by cases hx), fun k hk => ?_⟩, by decide, by decide, fun x hx => (by cases hx), fun k hk => ?_⟩
  · rcases List.mem_cons.1 hk with rfl | hk
    · exact f2
    · rw [List.mem_singleton.1 hk]; exact f1
  · rcases List.mem_cons.1 hk with rfl | hk
    · exact ⟨hM, fun x hx => (by cases hx), fun k hk => by
        rw [List.mem_singleton.1 hk]
        exact ⟨hN, fun x hx => (by cases hx), fun k hk => (by cases hk)⟩⟩
    · rw [List.mem_singleton.1 hk]
      exact ⟨hN, fun x hx => (by cases hx), fun k hk => (by cases hk)⟩
theorem alTb : TbOk alL := addAllT_ok (L := []) ⟨List.nodup_nil, by simp⟩ alT
theorem al1 : lookT alL [112, 46, 77] [78] = some ⟨[112, 46, 77, 46, 78], false, 1, 0, 0⟩ := by
  rw [lookT_cut, if_neg (by decide), lookUp_eq]
  rfl
theorem al2 : lookT alL [112] [78] = some ⟨[112, 46, 78], false, 2, 0, 0⟩ := by
  rw [lookT_cut, if_neg (by decide), lookUp_eq]
  rfl
theorem sof_more {gls : List (Nat × List Value)} (ED EL : Er) (hs : ∀ x, x ∈ gS ED EL → x ∈ gls) (f : Fil) (hf : FOk 40 f) : EF Tryz.prog gls 7 [FQ f] (ofR ED EL (table f)) := EFx.more (sof_ef ED EL 40 (by decide) f hf) hs
set_option maxRecDepth 100000 in
set_option maxHeartbeats 2000000 in
theorem salive_ef {gls : List (Nat × List Value)} (ED EL : Er) (hs : ∀ x, x ∈ gS ED EL → x ∈ gls) : EF Tryz.prog gls 5 [] (.part (bP true)) := by
  have ho := sof_more ED EL hs alF alOk
  rw [alT] at ho
  have l1 := look_ef gls alL alTb [112, 46, 77] [78] (by decide) (by decide)
  have l2 := look_ef gls alL alTb [112] [78] (by decide) (by decide)
  rw [al1] at l1
  rw [al2] at l2
  refine ef_enter 59 Tryz.func5 rfl rfl rfl fun w D => ?_
  try refine e_fl ?_
  refine e_plain (w_as rfl rfl rfl rfl rfl .nil) ?_
  try refine e_fl ?_
  refine e_list ?_
  refine l_op (s_build (ds := [_, .row 10 0 [], .row 1 0 [], .row 9 0 [], .row 4 0 [], .row 2 0 [], .row 1 0 [], _, _]) [(0, _)] rfl ⟨rfl, (kn rfl), trivial⟩ rfl pl_62 zr_62 (fun w D => .cons (.cell _) (.cons (.none _ _ _) (.cons (.none _ _ _) (.cons (.none _ _ _) (.cons (.none _ _ _) (.cons (.none _ _ _) (.cons (.none _ _ _) (.cons (.cell _) (.cons (.cell _) (.nil _ _)))))))))) rfl) ?_
  refine l_op (s_buildSlice (ds := [_, _, _, _, _, _, _, _, _]) [(0, _)] rfl ⟨rfl, (kn rfl), trivial⟩ rfl sl_23 sz_62 zr_62 (fun w D => .cons (.cell _) (.cons (.cell _) (.cons (.cell _) (.cons (.cell _) (.cons (.cell _) (.cons (.cell _) (.cons (.cell _) (.cons (.cell _) (.cons (.cell _) (.nil _ _)))))))))) rfl rfl rfl rfl rfl) ?_
  refine l_op (s_build (ds := [_, .row 10 0 [], .row 1 0 [], _, .row 4 0 [], .row 2 0 [], .row 1 0 [], _, _]) [(0, _), (3, _)] rfl ⟨rfl, (kn rfl), ⟨rfl, (kn rfl), trivial⟩⟩ rfl pl_62 zr_62 (fun w D => .cons (.cell _) (.cons (.none _ _ _) (.cons (.none _ _ _) (.cons (.cell _) (.cons (.none _ _ _) (.cons (.none _ _ _) (.cons (.none _ _ _) (.cons (.cell _) (.cons (.cell _) (.nil _ _)))))))))) rfl) ?_
  refine l_op (s_build (ds := [_, .row 10 0 [], .row 1 0 [], .row 9 0 [], .row 4 0 [], .row 2 0 [], .row 1 0 [], _, _]) [(0, _)] rfl ⟨rfl, (kn rfl), trivial⟩ rfl pl_62 zr_62 (fun w D => .cons (.cell _) (.cons (.none _ _ _) (.cons (.none _ _ _) (.cons (.none _ _ _) (.cons (.none _ _ _) (.cons (.none _ _ _) (.cons (.none _ _ _) (.cons (.cell _) (.cons (.cell _) (.nil _ _)))))))))) rfl) ?_
  refine l_op (s_buildSlice (ds := [_, _, _, _, _, _, _, _, _, _, _, _, _, _, _, _, _, _]) [(0, _), (1, _)] rfl ⟨rfl, (kn rfl), ⟨rfl, (kn rfl), trivial⟩⟩ rfl sl_23 sz_62 zr_62 (fun w D => .cons (.cell _) (.cons (.cell _) (.cons (.cell _) (.cons (.cell _) (.cons (.cell _) (.cons (.cell _) (.cons (.cell _) (.cons (.cell _) (.cons (.cell _) (.cons (.cell _) (.cons (.cell _) (.cons (.cell _) (.cons (.cell _) (.cons (.cell _) (.cons (.cell _) (.cons (.cell _) (.cons (.cell _) (.cons (.cell _) (.nil _ _))))))))))))))))))) rfl rfl rfl rfl rfl) ?_
  refine l_op (s_build (ds := [_, _, .row 4 0 []]) [(0, _), (1, _)] rfl ⟨rfl, (kn rfl), ⟨rfl, (kn rfl), trivial⟩⟩ rfl pl_26 zr_26 (fun w D => .cons (.cell _) (.cons (.cell _) (.cons (.none _ _ _) (.nil _ _)))) rfl) ?_
  refine e_alloc 1 [.is (.string ⟨#[]⟩), .is (.slice none 0 0), .is (.slice none 0 0)] rfl rfl rfl rfl zr_26 (fun w D M V => ⟨rfl, fun j x v h1 h2 => cfit_is _ h1 h2 rfl⟩) rfl rfl rfl rfl ?_
  refine e_storew rfl rfl rfl (kn rfl) rfl (kn rfl) rfl rfl sz_26 ?_
  refine e_nil ?_
  try refine e_fl ?_
  refine e_plain (w_op rfl rfl rfl (s_loadn_box (ds := [_, _, _]) 3 rfl (kn rfl) rfl rfl agg_26 sz_26 rfl) (w_op rfl rfl rfl (s_call rfl (by kernel_rfl) (ho) ⟨(kn rfl), trivial⟩) (w_mv rfl rfl rfl rfl rfl (w_op rfl rfl rfl (s_extract rfl (kn rfl) rfl) (w_op rfl rfl rfl (s_extract rfl (kn rfl) rfl) (w_as rfl rfl rfl rfl rfl (w_as rfl rfl rfl rfl rfl .nil))))))) ?_
  try refine e_fl ?_
  refine e_plain (w_mv rfl rfl rfl rfl rfl (w_op rfl rfl rfl (s_nil_neq rfl (kn rfl) ifc_28) (w_mv rfl rfl rfl rfl rfl (Walk.gd _ rfl rfl rfl (fun h => s_move rfl (kn rfl)) (Walk.gd _ rfl rfl rfl (fun h => s_ptr_dat rfl (kn_opt rfl h) (by kernel_rfl)) (w_op rfl rfl rfl (s_or rfl (kn rfl) (fun hb => kn_opt rfl hb)) .nil)))))) ?_
  try refine e_fl ?_
  refine c_no ?_
  try refine e_fl ?_
  refine e_list ?_
  refine l_mv ?_
  refine l_op (s_call rfl (by kernel_rfl) (l1) ⟨(kn rfl), ⟨(kn rfl), ⟨(kn rfl), trivial⟩⟩⟩) ?_
  refine l_mv ?_
  refine l_ex ?_
  refine l_ex ?_
  refine e_alloc 4 [.is (.string ⟨#[]⟩), .is (.bool false), .is (.int .i64 0), .is (.int .i64 0), .is (.int .i64 0)] rfl rfl rfl rfl zr_47 (fun w D M V => ⟨rfl, fun j x v h1 h2 => cfit_is _ h1 h2 rfl⟩) rfl rfl rfl rfl ?_
  refine e_storew rfl rfl rfl (kn rfl) rfl (kn rfl) rfl rfl sz_47 ?_
  refine l_as ?_
  refine e_nil ?_
  try refine e_fl ?_
  refine e_list ?_
  refine l_mv ?_
  refine l_op (s_call rfl (by kernel_rfl) (l2) ⟨(kn rfl), ⟨(kn rfl), ⟨(kn rfl), trivial⟩⟩⟩) ?_
  refine l_mv ?_
  refine l_ex ?_
  refine l_ex ?_
  refine e_alloc 6 [.is (.string ⟨#[]⟩), .is (.bool false), .is (.int .i64 0), .is (.int .i64 0), .is (.int .i64 0)] rfl rfl rfl rfl zr_47 (fun w D M V => ⟨rfl, fun j x v h1 h2 => cfit_is _ h1 h2 rfl⟩) rfl rfl rfl rfl ?_
  refine e_storew rfl rfl rfl (kn rfl) rfl (kn rfl) rfl rfl sz_47 ?_
  refine l_as ?_
  refine e_nil ?_
  try refine e_fl ?_
  refine e_plain (w_mv rfl rfl rfl rfl rfl (w_mv rfl rfl rfl rfl rfl (Walk.gd _ rfl rfl rfl (fun h => s_move rfl (kn rfl)) (w_op rfl rfl rfl (s_and rfl (kn rfl) (fun hb => kn_opt rfl hb)) (w_mv rfl rfl rfl rfl rfl (Walk.gd _ rfl rfl rfl (fun h => s_faddr_box rfl (kn rfl) off_47_0) (Walk.gd _ rfl rfl rfl (fun h => s_load1_box rfl (kn_opt rfl h) rfl rfl one_9) (Walk.gd _ rfl rfl rfl (fun h => s_bin rfl (kn_opt rfl h) (kn rfl) (v_seql (b := [112, 46, 77, 46, 78]))) (w_op rfl rfl rfl (s_and rfl (kn rfl) (fun hb => kn_opt rfl hb)) (w_mv rfl rfl rfl rfl rfl (Walk.gd _ rfl rfl rfl (fun h => s_faddr_box rfl (kn rfl) off_47_2) (Walk.gd _ rfl rfl rfl (fun h => s_load1_box rfl (kn_opt rfl h) rfl rfl one_3) (Walk.gd _ rfl rfl rfl (fun h => s_bin rfl (kn_opt rfl h) (kn rfl) v_eql) (w_op rfl rfl rfl (s_and rfl (kn rfl) (fun hb => kn_opt rfl hb)) (w_mv rfl rfl rfl rfl rfl (Walk.gd _ rfl rfl rfl (fun h => s_faddr_box rfl (kn rfl) off_47_0) (Walk.gd _ rfl rfl rfl (fun h => s_load1_box rfl (kn_opt rfl h) rfl rfl one_9) (Walk.gd _ rfl rfl rfl (fun h => s_bin rfl (kn_opt rfl h) (kn rfl) (v_seql (b := [112, 46, 78]))) (w_op rfl rfl rfl (s_and rfl (kn rfl) (fun hb => kn_opt rfl hb)) (w_mv rfl rfl rfl rfl rfl (Walk.gd _ rfl rfl rfl (fun h => s_faddr_box rfl (kn rfl) off_47_2) (Walk.gd _ rfl rfl rfl (fun h => s_load1_box rfl (kn_opt rfl h) rfl rfl one_3) (Walk.gd _ rfl rfl rfl (fun h => s_bin rfl (kn_opt rfl h) (kn rfl) v_eql) (w_op rfl rfl rfl (s_and rfl (kn rfl) (fun hb => kn_opt rfl hb)) (w_as rfl rfl rfl rfl rfl .nil))))))))))))))))))))))))) ?_
  try refine e_fl ?_
  exact e_return rfl rfl (.tmp (kn rfl) (.nil)) (Imp.of_eq (by rfl)) rfl
end Go.Proofs.YtekeanikgcpijaaGreatDoor
namespace Go.Proofs.YtekeanikgcpijaaGreatDoor
open Go.RowKit
abbrev errK (k : Nat) : Nat := if k = 1 then 10 else 2
theorem errT_eq (A : Nat → Addr) (k : Nat) : errT (DupE A) (LongE A) k = (tE, .pointer (some (A (errK k)))) := by
  unfold errT
  split <;> rfl
theorem errK_eq (k : Nat) : (if k = 1 then (11 : Int) else 3) = (errK k : Int) + 1 := by
  unfold errK
  split <;> rfl
theorem fault2_w {cx : Cx} {A : Nat → Addr} (hbor : ∀ g, ¬ cx.bor g) (hE : Errs cx.w0 A) (hT : ErrT cx.w0) (k : Nat) (hk : k < 19) (li co : Int) : EFw Tryz.prog cx 10 [.one (sfD li co (tE, .pointer (some (A k)))), iP ((k : Int) + 1), iP li, iP co] (.part (bP true)) := fun w hbx D vs hD hG hp => by
  have hbl : Below cx.w0.heap.size cx.w0 w := ⟨hbx.os, hbx.tape, hbx.output, hbx.size, fun q hq => hbx.block q hq (hbor q)⟩
  match vs, hp with
  | [a, b, c, d], ⟨h1, h2, h3, h4, _⟩ =>
    rw [Lies.cell_eq h2, Lies.cell_eq h3, Lies.cell_eq h4]
    have h1' : Lies w D (.ifc 96 (.ptr 98 [.cell (.int .i64 li), .cell (.int .i64 co), .cell (errV A k)])) a := h1
    cases h1' with
    | ifc t d v hv =>
      cases hv with
      | ptr g t ds xs hDg hblk hlen hx =>
        have hc : Fits w D ([.int .i64 li, .int .i64 co, errV A k].map Dat.cell) xs := ⟨hlen, hx⟩
        rw [hc.cells] at hblk
        refine (fault_hit w A (hE.below hbl) (hT.below hbl) g k hk li co hblk).mono ?_
        rintro e w' ⟨rfl, hb⟩
        exact ⟨_, _, rfl, rfl, hb, fun M V => .cell _⟩
set_option maxRecDepth 100000 in
theorem neqTy (x y : Ty) : BinV Tryz.prog .neq 48 (.agg x.vals.toArray) (.agg y.vals.toArray) (.bool (!cdec (x.vals = y.vals))) :=
  v_stneq3 (by kernel_rfl) (by kernel_rfl) (by kernel_rfl) (flat_of3 (ks := [1, 2, 0, 0, 0]) (by kernel_rfl) (.str _ _ (.bool _ _ (.int _ _ _ (.int _ _ _ (.int _ _ _ .nil))))))
theorem ptrT : Tryz.prog.underlying 31 = some (.pointer (Tryz.prog.pointee 31)) := by kernel_rfl
theorem texts_same (gls : List (Nat × List Value)) (a : List (List UInt8)) (ha : a.length ≤ 100000000000) : EF Tryz.prog gls 12 [txsP a, txsP a] (.part (bP true)) := by
  have h := EFx.more (gls' := gls) (sameTexts_ef a a ha) fun x hx => (by cases hx)
  have e : cdec (a = a) = true := cdec_true.2 rfl
  rw [e] at h
  exact h
set_option maxRecDepth 100000 in
theorem tables_bad {gls : List (Nat × List Value)} {A : Nat → Addr} (hsub : ∀ x, x ∈ gS (DupE A) (LongE A) → x ∈ gls) (w : World) (hG : GlOK gls w) (s : List UInt8) (f : Fil) (li co n : Nat) (hof : EF Tryz.prog gls 6 [sP s] (.tup [FQ f, fltR A li co n])) :
    Calls Tryz.prog 3 #[.string (str s)] w (Gives w (fun _ => False) (· = .part (bP true))) := by
  refine call_enter (ps := [sP s]) 100 Tryz.func3 rfl rfl rfl w (fun _ => False) [.string (str s)] (fun g h => h.elim) hG ⟨.cell _, trivial⟩ ?_
  try refine e_fl ?_
  refine e_plain (w_as rfl rfl rfl rfl rfl .nil) ?_
  try refine e_fl ?_
  refine e_plain (w_op rfl rfl rfl (s_call rfl (by kernel_rfl) (salive_ef (DupE A) (LongE A) hsub) trivial) (w_op rfl rfl rfl (s_not rfl (kn rfl)) .nil)) ?_
  try refine e_fl ?_
  refine c_no ?_
  try refine e_fl ?_
  refine e_plain (w_mv rfl rfl rfl rfl rfl (w_op rfl rfl rfl (s_slen rfl (kn rfl) str_9) (w_op rfl rfl rfl (s_bin rfl (kn rfl) (kn rfl) v_gtr) .nil))) ?_
  try refine e_fl ?_
  refine e_cond rfl (fun h => ?_) (fun _ => ?_)
  · try refine e_fl ?_
    refine e_plain (w_as rfl rfl rfl rfl rfl .nil) ?_
    try refine e_fl ?_
    exact e_return rfl rfl (.tmp (kn rfl) (.nil)) (Imp.refl _) rfl
  try refine e_fl ?_
  refine e_list ?_
  refine l_mv ?_
  refine l_op (s_call rfl (by kernel_rfl) (hof) ⟨(kn rfl), trivial⟩) ?_
  refine l_mv ?_
  refine l_ex ?_
  refine l_ex ?_
  refine e_alloc 3 [.is (.string ⟨#[]⟩), .is (.slice none 0 0), .is (.slice none 0 0)] rfl rfl rfl rfl zr_26 (fun w D M V => ⟨rfl, fun j x v h1 h2 => cfit_is _ h1 h2 rfl⟩) rfl rfl rfl rfl ?_
  refine e_storew rfl rfl rfl (kn rfl) rfl (kn rfl) rfl rfl sz_26 ?_
  refine l_as ?_
  refine e_nil ?_
  try refine e_fl ?_
  refine e_plain (w_mv rfl rfl rfl rfl rfl (w_op rfl rfl rfl (s_err_neq rfl (kn rfl) rfl ifc_28) .nil)) ?_
  try refine e_fl ?_
  refine c_yes ?_
  try refine e_fl ?_
  refine e_plain (w_as rfl rfl rfl rfl rfl .nil) ?_
  try refine e_fl ?_
  exact e_return rfl rfl (.tmp (kn rfl) (.nil)) (Imp.refl _) rfl
set_option maxRecDepth 100000 in
theorem tables_err {gls : List (Nat × List Value)} {A : Nat → Addr} (hsub : ∀ x, x ∈ gS (DupE A) (LongE A) → x ∈ gls) (w : World) (hG : GlOK gls w) (hE : Errs w A) (hT : ErrT w) (s : List UInt8) (f : Fil) (hf : FOk 40 f) (hc : (tyFile f).length ≤ 100000) (k : Nat) (li co : Int) (htb : table f = .error (k, li, co)) (hof : EF Tryz.prog gls 6 [sP s] (.tup [FQ f, nilP])) :
    Calls Tryz.prog 3 #[.string (str s)] w (Gives w (fun _ => False) (· = .part (bP true))) := by
  have hso := sof_more (DupE A) (LongE A) hsub f hf
  have hro := rof_ef gls 40 (by decide) f hf (by omega)
  have hOf : EF Tryz.prog gls 9 [FQ f] (.part (FQ f)) := EFx.more (of_ef f hf.fine) fun x hx => (by cases hx)
  rw [htb] at hso hro
  simp only [ofR, rofR, errT_eq, errK_eq] at hso hro
  have hkk : errK k < 19 := by unfold errK; split <;> decide
  have hz : ((errK k : Int) + 1 = 0) = False := by simp; omega
  refine call_enter (ps := [sP s]) 100 Tryz.func3 rfl rfl rfl w (fun _ => False) [.string (str s)] (fun g h => h.elim) hG ⟨.cell _, trivial⟩ ?_
  try refine e_fl ?_
  refine e_plain (w_as rfl rfl rfl rfl rfl .nil) ?_
  try refine e_fl ?_
  refine e_plain (w_op rfl rfl rfl (s_call rfl (by kernel_rfl) (salive_ef (DupE A) (LongE A) hsub) trivial) (w_op rfl rfl rfl (s_not rfl (kn rfl)) .nil)) ?_
  try refine e_fl ?_
  refine c_no ?_
  try refine e_fl ?_
  refine e_plain (w_mv rfl rfl rfl rfl rfl (w_op rfl rfl rfl (s_slen rfl (kn rfl) str_9) (w_op rfl rfl rfl (s_bin rfl (kn rfl) (kn rfl) v_gtr) .nil))) ?_
  try refine e_fl ?_
  refine e_cond rfl (fun h => ?_) (fun _ => ?_)
  · try refine e_fl ?_
    refine e_plain (w_as rfl rfl rfl rfl rfl .nil) ?_
    try refine e_fl ?_
    exact e_return rfl rfl (.tmp (kn rfl) (.nil)) (Imp.refl _) rfl
  try refine e_fl ?_
  refine e_list ?_
  refine l_mv ?_
  refine l_op (s_call rfl (by kernel_rfl) (hof) ⟨(kn rfl), trivial⟩) ?_
  refine l_mv ?_
  refine l_ex ?_
  refine l_ex ?_
  refine e_alloc 3 [.is (.string ⟨#[]⟩), .is (.slice none 0 0), .is (.slice none 0 0)] rfl rfl rfl rfl zr_26 (fun w D M V => ⟨rfl, fun j x v h1 h2 => cfit_is _ h1 h2 rfl⟩) rfl rfl rfl rfl ?_
  refine e_storew rfl rfl rfl (kn rfl) rfl (kn rfl) rfl rfl sz_26 ?_
  refine l_as ?_
  refine e_nil ?_
  try refine e_fl ?_
  refine e_plain (w_mv rfl rfl rfl rfl rfl (w_op rfl rfl rfl (s_nil_neq rfl (kn rfl) ifc_28) .nil)) ?_
  try refine e_fl ?_
  refine c_no ?_
  try refine e_fl ?_
  refine e_plain (w_op rfl rfl rfl (s_loadn_box (ds := [_, _, _]) 3 rfl (kn rfl) rfl rfl agg_26 sz_26 rfl) (w_op rfl rfl rfl (s_call rfl (by kernel_rfl) (hso) ⟨(kn rfl), trivial⟩) (w_mv rfl rfl rfl rfl rfl (w_op rfl rfl rfl (s_extract rfl (kn rfl) rfl) (w_op rfl rfl rfl (s_extract rfl (kn rfl) rfl) (w_as rfl rfl rfl rfl rfl (w_as rfl rfl rfl rfl rfl .nil))))))) ?_
  try refine e_fl ?_
  refine e_plain (w_op rfl rfl rfl (s_loadn_box (ds := [_, _, _]) 3 rfl (kn rfl) rfl rfl agg_26 sz_26 rfl) (w_op rfl rfl rfl (s_call rfl (by kernel_rfl) (hOf) ⟨(kn rfl), trivial⟩) (w_op rfl rfl rfl (s_call rfl (by kernel_rfl) (hro) ⟨(kn rfl), trivial⟩) (w_mv rfl rfl rfl rfl rfl (w_op rfl rfl rfl (s_extract rfl (kn rfl) rfl) (w_op rfl rfl rfl (s_extract rfl (kn rfl) rfl) (w_op rfl rfl rfl (s_extract rfl (kn rfl) rfl) (w_op rfl rfl rfl (s_extract rfl (kn rfl) rfl) (w_as rfl rfl rfl rfl rfl (w_as rfl rfl rfl rfl rfl (w_as rfl rfl rfl rfl rfl (w_as rfl rfl rfl rfl rfl .nil)))))))))))) ?_
  try refine e_fl ?_
  refine e_plain (w_mv rfl rfl rfl rfl rfl (w_mv rfl rfl rfl rfl rfl (w_mv rfl rfl rfl rfl rfl (w_mv rfl rfl rfl rfl rfl (w_op rfl rfl rfl (s_callw rfl (by kernel_rfl) (fault2_w (fun g h => h) hE hT (errK k) hkk li co) ⟨kn rfl, kn rfl, kn rfl, kn rfl, trivial⟩) (w_op rfl rfl rfl (s_not rfl (kn rfl)) (w_mv rfl rfl rfl rfl rfl (Walk.gd _ rfl rfl rfl (fun h => s_move rfl (kn rfl)) (Walk.gd _ rfl rfl rfl (fun h => s_ptr_nil rfl (kn_opt rfl h) ptrT) (Walk.gd _ rfl rfl rfl (fun h => s_move rfl (kn rfl)) (Walk.gd _ rfl rfl rfl (fun h => s_bin rfl (kn_opt rfl h) (kn rfl) v_neq) (Walk.gd _ rfl rfl rfl (fun h => s_bin rfl (kn_opt rfl h) (kn_opt rfl h) (v_bne bool_4)) (w_op rfl rfl rfl (s_or rfl (kn rfl) (fun hb => kn_opt rfl hb)) .nil))))))))))))) ?_
  try refine e_fl ?_
  refine e_cond rfl (fun h => by simp [hz] at h) (fun _ => ?_)
  try refine e_fl ?_
  refine e_plain (w_mv rfl rfl rfl rfl rfl (w_op rfl rfl rfl (s_ptr_nil rfl (kn rfl) ptrT) .nil)) ?_
  try refine e_fl ?_
  refine c_yes ?_
  try refine e_fl ?_
  refine e_plain (w_as rfl rfl rfl rfl rfl .nil) ?_
  try refine e_fl ?_
  exact e_return rfl rfl (.tmp (kn rfl) (.nil)) (Imp.refl _) rfl
set_option maxRecDepth 100000 in
set_option maxHeartbeats 2000000 in
theorem tables_ok {gls : List (Nat × List Value)} {A : Nat → Addr} (hsub : ∀ x, x ∈ gS (DupE A) (LongE A) → x ∈ gls) (w : World) (hG : GlOK gls w) (s : List UInt8) (f : Fil) (hf : FOk 40 f) (hc : (tyFile f).length ≤ 100000) (L : List Ty) (htb : table f = .ok L) (hof : EF Tryz.prog gls 6 [sP s] (.tup [FQ f, nilP])) :
    Calls Tryz.prog 3 #[.string (str s)] w (Gives w (fun _ => False) (· = .part (bP true))) := by
  have hso := sof_more (DupE A) (LongE A) hsub f hf
  have hro := rof_ef gls 40 (by decide) f hf (by omega)
  have hOf : EF Tryz.prog gls 9 [FQ f] (.part (FQ f)) := EFx.more (of_ef f hf.fine) fun x hx => (by cases hx)
  have hL : TbOk L := addAllT_ok (L := []) ⟨List.nodup_nil, by simp⟩ htb
  have h40 := hL.2
  have hn1 := nmsT_le false L
  have hn2 := nmsT_le true L
  rw [htb] at hso hro
  refine call_enter (ps := [sP s]) 100 Tryz.func3 rfl rfl rfl w (fun _ => False) [.string (str s)] (fun g h => h.elim) hG ⟨.cell _, trivial⟩ ?_
  try refine e_fl ?_
  refine e_plain (w_as rfl rfl rfl rfl rfl .nil) ?_
  try refine e_fl ?_
  refine e_plain (w_op rfl rfl rfl (s_call rfl (by kernel_rfl) (salive_ef (DupE A) (LongE A) hsub) trivial) (w_op rfl rfl rfl (s_not rfl (kn rfl)) .nil)) ?_
  try refine e_fl ?_
  refine c_no ?_
  try refine e_fl ?_
  refine e_plain (w_mv rfl rfl rfl rfl rfl (w_op rfl rfl rfl (s_slen rfl (kn rfl) str_9) (w_op rfl rfl rfl (s_bin rfl (kn rfl) (kn rfl) v_gtr) .nil))) ?_
  try refine e_fl ?_
  refine e_cond rfl (fun h => ?_) (fun _ => ?_)
  · try refine e_fl ?_
    refine e_plain (w_as rfl rfl rfl rfl rfl .nil) ?_
    try refine e_fl ?_
    exact e_return rfl rfl (.tmp (kn rfl) (.nil)) (Imp.refl _) rfl
  try refine e_fl ?_
  refine e_list ?_
  refine l_mv ?_
  refine l_op (s_call rfl (by kernel_rfl) (hof) ⟨(kn rfl), trivial⟩) ?_
  refine l_mv ?_
  refine l_ex ?_
  refine l_ex ?_
  refine e_alloc 3 [.is (.string ⟨#[]⟩), .is (.slice none 0 0), .is (.slice none 0 0)] rfl rfl rfl rfl zr_26 (fun w D M V => ⟨rfl, fun j x v h1 h2 => cfit_is _ h1 h2 rfl⟩) rfl rfl rfl rfl ?_
  refine e_storew rfl rfl rfl (kn rfl) rfl (kn rfl) rfl rfl sz_26 ?_
  refine l_as ?_
  refine e_nil ?_
  try refine e_fl ?_
  refine e_plain (w_mv rfl rfl rfl rfl rfl (w_op rfl rfl rfl (s_nil_neq rfl (kn rfl) ifc_28) .nil)) ?_
  try refine e_fl ?_
  refine c_no ?_
  try refine e_fl ?_
  refine e_plain (w_op rfl rfl rfl (s_loadn_box (ds := [_, _, _]) 3 rfl (kn rfl) rfl rfl agg_26 sz_26 rfl) (w_op rfl rfl rfl (s_call rfl (by kernel_rfl) (hso) ⟨(kn rfl), trivial⟩) (w_mv rfl rfl rfl rfl rfl (w_op rfl rfl rfl (s_extract rfl (kn rfl) rfl) (w_op rfl rfl rfl (s_extract rfl (kn rfl) rfl) (w_as rfl rfl rfl rfl rfl (w_as rfl rfl rfl rfl rfl .nil))))))) ?_
  try refine e_fl ?_
  refine e_plain (w_op rfl rfl rfl (s_loadn_box (ds := [_, _, _]) 3 rfl (kn rfl) rfl rfl agg_26 sz_26 rfl) (w_op rfl rfl rfl (s_call rfl (by kernel_rfl) (hOf) ⟨(kn rfl), trivial⟩) (w_op rfl rfl rfl (s_call rfl (by kernel_rfl) (hro) ⟨(kn rfl), trivial⟩) (w_mv rfl rfl rfl rfl rfl (w_op rfl rfl rfl (s_extract rfl (kn rfl) rfl) (w_op rfl rfl rfl (s_extract rfl (kn rfl) rfl) (w_op rfl rfl rfl (s_extract rfl (kn rfl) rfl) (w_op rfl rfl rfl (s_extract rfl (kn rfl) rfl) (w_as rfl rfl rfl rfl rfl (w_as rfl rfl rfl rfl rfl (w_as rfl rfl rfl rfl rfl (w_as rfl rfl rfl rfl rfl .nil)))))))))))) ?_
  try refine e_fl ?_
  refine e_plain (w_mv rfl rfl rfl rfl rfl (w_mv rfl rfl rfl rfl rfl (w_mv rfl rfl rfl rfl rfl (w_mv rfl rfl rfl rfl rfl (w_op rfl rfl rfl (s_callw rfl (by kernel_rfl) fault0_w ⟨kn rfl, kn rfl, kn rfl, kn rfl, trivial⟩) (w_op rfl rfl rfl (s_not rfl (kn rfl)) (w_mv rfl rfl rfl rfl rfl (Walk.gd _ rfl rfl rfl (fun h => s_move rfl (kn rfl)) (Walk.gd _ rfl rfl rfl (fun h => s_ptr_dat rfl (kn_opt rfl h) ptrT) (Walk.gd _ rfl rfl rfl (fun h => s_move rfl (kn rfl)) (Walk.gd _ rfl rfl rfl (fun h => s_bin rfl (kn_opt rfl h) (kn rfl) v_neq) (Walk.gd _ rfl rfl rfl (fun h => s_bin rfl (kn_opt rfl h) (kn_opt rfl h) (v_bne bool_4)) (w_op rfl rfl rfl (s_or rfl (kn rfl) (fun hb => kn_opt rfl hb)) .nil))))))))))))) ?_
  try refine e_fl ?_
  refine c_no ?_
  try refine e_fl ?_
  refine e_plain (w_mv rfl rfl rfl rfl rfl (w_op rfl rfl rfl (s_ptr_dat rfl (kn rfl) ptrT) .nil)) ?_
  try refine e_fl ?_
  refine c_no ?_
  try refine e_fl ?_
  refine e_plain (w_mv rfl rfl rfl rfl rfl (w_op rfl rfl rfl (s_call rfl (by kernel_rfl) (types_ef _ L hL) ⟨(kn rfl), trivial⟩) (w_as rfl rfl rfl rfl rfl .nil))) ?_
  try refine e_fl ?_
  refine e_list ?_
  refine e_made 100 rfl rfl rfl rfl sl_45 ap_45 rfl rfl ?_
  refine e_made 101 rfl rfl rfl rfl sl_45 ap_45 rfl rfl ?_
  refine l_as ?_
  refine l_as ?_
  refine e_nil ?_
  try refine e_fl ?_
  refine e_plain (w_mv rfl rfl rfl rfl rfl (w_op rfl rfl rfl (s_len rfl (kn rfl) sle_43) (w_mv rfl rfl rfl rfl rfl (w_op rfl rfl rfl (s_len rfl (kn rfl) sle_34) (w_op rfl rfl rfl (s_bin rfl (kn rfl) (kn rfl) v_neq) .nil))))) ?_
  try refine e_fl ?_
  refine e_cond rfl (fun h => by simp at h) (fun _ => ?_)
  try refine e_fl ?_
  refine e_plain (w_mv rfl rfl rfl rfl rfl (w_op rfl rfl rfl (s_len rfl (kn rfl) sle_43) (w_mv rfl rfl rfl rfl rfl .nil))) ?_
  try refine e_fl ?_
  refine e_loop (ι := { i : Nat // i ≤ L.length })
    (fun i => [(5, .part (tabP L)), (6, .part (.one (.row 5 L.length (L.flatMap Ty.dats)))), (11, .own 100), (12, .own 101), (64, .part (.one (.row 5 L.length (L.flatMap Ty.dats)))), (65, .is (.int .i64 (L.length : Int))), (66, .is (.int .i64 (i.1 : Int)))])
    (fun _ => []) (fun i => [(100, ⟨9, 1, (nmsT false (L.take i.1)).length, (nmsT false (L.take i.1)).flatMap textDats, false⟩), (101, ⟨9, 1, (nmsT true (L.take i.1)).length, (nmsT true (L.take i.1)).flatMap textDats, false⟩)]) (fun i => L.length - i.1)
    ⟨0, by omega⟩
    (fun K => e_sub ⟨s_t, s_t, s_t, s_t, s_t, s_t, s_t, trivial⟩ trivial ⟨rfl, rfl, trivial⟩) ?_
  rintro ⟨i, hi⟩
  dsimp only at hi ⊢
  try refine e_fl ?_
  refine e_plain (w_op rfl rfl rfl (s_bin rfl (kn rfl) (kn rfl) v_lss) .nil) ?_
  try refine e_fl ?_
  refine e_cond rfl (fun h => ?_) (fun h => ?_)
  · have hlt : i < L.length := by have := of_decide_eq_true h; omega
    obtain ⟨x, hx⟩ : ∃ x, L[i]? = some x := ⟨_, List.getElem?_eq_getElem hlt⟩
    have htk : L.take (i + 1) = L.take i ++ [x] := by rw [List.take_add_one, hx]; rfl
    have hs1 := nmsT_snoc false (L.take i) x
    have hs2 := nmsT_snoc true (L.take i) x
    have hl1 := nmsT_le false (L.take i)
    have hl2 := nmsT_le true (L.take i)
    rw [List.length_take] at hl1 hl2
    rw [← htk] at hs1 hs2
    have hcd : cdec (x.vals = x.vals) = true := cdec_true.2 rfl
    try refine e_fl ?_
    refine e_list ?_
    refine l_mv ?_
    refine l_op (s_index rfl (kn rfl) (kn rfl) (by omega) hx Ty.dats_len sle_43 esz_43 rfl) ?_
    refine l_op (s_loadn_ref rfl (kn rfl) agg_47 sz_47) ?_
    refine e_alloc 14 [.is (.string ⟨#[]⟩), .is (.bool false), .is (.int .i64 0), .is (.int .i64 0), .is (.int .i64 0)] rfl rfl rfl rfl zr_47 (fun w D M V => ⟨rfl, fun j x v h1 h2 => cfit_is _ h1 h2 rfl⟩) rfl rfl rfl rfl ?_
    refine l_as ?_
    refine e_storew rfl rfl rfl (kn rfl) rfl (kn rfl) rfl rfl sz_47 ?_
    refine e_nil ?_
    try refine e_fl ?_
    refine e_draw mixed (by kernel_rfl) (w_op rfl rfl rfl (s_loadn_box (ds := [_, _, _, _, _]) 5 rfl (kn rfl) rfl rfl agg_47 sz_47 rfl) (w_mv rfl rfl rfl rfl rfl (w_mv rfl rfl rfl rfl rfl (w_op rfl rfl rfl (s_index rfl (kn rfl) (kn rfl) (by omega) hx Ty.dats_len sle_34 esz_34 rfl) (w_op rfl rfl rfl (s_loadn_ref rfl (kn rfl) agg_48 sz_48) (w_op rfl rfl rfl (s_binm (cs := x.vals) (ds := x.vals) rfl (kn rfl) (kn rfl) (neqTy x x)) .nil)))))) ?_
    try refine e_fl ?_
    rw [hcd]
    refine c_no ?_
    try refine e_fl ?_
    refine e_plain (w_op rfl rfl rfl (s_faddr_box rfl (kn rfl) off_47_1) (w_op rfl rfl rfl (s_load1_box rfl (kn rfl) rfl rfl one_4) .nil)) ?_
    try refine e_fl ?_
    refine e_cond rfl (fun h1 => ?_) (fun h1 => ?_)
    · rw [h1, if_neg (by decide), List.append_nil] at hs1
      rw [h1, if_pos (by decide)] at hs2
      try refine e_fl ?_
      refine e_list ?_
      refine l_mv ?_
      refine l_op (s_faddr_box rfl (kn rfl) off_47_0) ?_
      refine l_op (s_load1_box rfl (kn rfl) rfl rfl one_9) ?_
      refine l_op (s_buildSlice (ds := [_]) [(0, _)] rfl ⟨rfl, (kn rfl), trivial⟩ rfl sl_45 sz_9 zr_9 (fun w D => .cons (.cell _) (.nil _ _)) rfl rfl rfl rfl rfl) ?_
      refine e_append rfl rfl rfl rfl (kn rfl) rfl (kn rfl) sl_45 ap_45 rfl rfl (by first | omega | (dsimp only; omega) | omega) (by first | omega | (dsimp only; omega) | omega) ?_
      refine l_as ?_
      refine e_nil ?_
      try refine e_fl ?_
      try refine e_fl ?_
      refine e_plain (w_op rfl rfl rfl (s_bin rfl (kn rfl) (kn rfl) (v_add64 (by first | omega | (dsimp only; omega) | omega))) (w_mv rfl rfl rfl rfl rfl .nil)) ?_
      try refine e_fl ?_
      refine e_again ⟨i + 1, by omega⟩ (by dsimp only; omega) (fun K => e_sub ⟨s_t, s_t, s_t, s_t, s_t, s_t, s_t, trivial⟩ trivial ⟨rowEq rfl (by rw [hs1]) (by rw [hs1]), rowEq rfl (by rw [hs2]; simp) (by rw [hs2]; simp [textDats]), trivial⟩)
    · rw [h1, if_pos (by decide)] at hs1
      rw [h1, if_neg (by decide), List.append_nil] at hs2
      try refine e_fl ?_
      refine e_list ?_
      refine l_mv ?_
      refine l_op (s_faddr_box rfl (kn rfl) off_47_0) ?_
      refine l_op (s_load1_box rfl (kn rfl) rfl rfl one_9) ?_
      refine l_op (s_buildSlice (ds := [_]) [(0, _)] rfl ⟨rfl, (kn rfl), trivial⟩ rfl sl_45 sz_9 zr_9 (fun w D => .cons (.cell _) (.nil _ _)) rfl rfl rfl rfl rfl) ?_
      refine e_append rfl rfl rfl rfl (kn rfl) rfl (kn rfl) sl_45 ap_45 rfl rfl (by first | omega | (dsimp only; omega) | omega) (by first | omega | (dsimp only; omega) | omega) ?_
      refine l_as ?_
      refine e_nil ?_
      try refine e_fl ?_
      try refine e_fl ?_
      refine e_plain (w_op rfl rfl rfl (s_bin rfl (kn rfl) (kn rfl) (v_add64 (by first | omega | (dsimp only; omega) | omega))) (w_mv rfl rfl rfl rfl rfl .nil)) ?_
      try refine e_fl ?_
      refine e_again ⟨i + 1, by omega⟩ (by dsimp only; omega) (fun K => e_sub ⟨s_t, s_t, s_t, s_t, s_t, s_t, s_t, trivial⟩ trivial ⟨rowEq rfl (by rw [hs1]; simp) (by rw [hs1]; simp [textDats]), rowEq rfl (by rw [hs2]) (by rw [hs2]), trivial⟩)
  · obtain rfl : i = L.length := by have := of_decide_eq_false h; omega
    rw [List.take_length]
    try refine e_fl ?_
    refine e_freeze_slot 11 100 rfl rfl rfl ?_
    refine e_freeze_slot 12 101 rfl rfl rfl ?_
    refine e_plain (w_mv rfl rfl rfl rfl rfl (w_op rfl rfl rfl (s_call rfl (by kernel_rfl) (messages_ef _ L hL) ⟨(kn rfl), trivial⟩) (w_mv rfl rfl rfl rfl rfl (w_op rfl rfl rfl (s_call rfl (by kernel_rfl) (texts_same _ (nmsT false L) (by omega)) ⟨(kn rfl), ⟨(kn rfl), trivial⟩⟩) (w_mv rfl rfl rfl rfl rfl (Walk.gd _ rfl rfl rfl (fun h => s_move rfl (kn rfl)) (Walk.gd _ rfl rfl rfl (fun h => s_call rfl (by kernel_rfl) (enums_ef _ L hL) ⟨(kn_opt rfl h), trivial⟩) (Walk.gd _ rfl rfl rfl (fun h => s_move rfl (kn rfl)) (Walk.gd _ rfl rfl rfl (fun h => s_call rfl (by kernel_rfl) (texts_same _ (nmsT true L) (by omega)) ⟨(kn_opt rfl h), ⟨(kn_opt rfl h), trivial⟩⟩) (w_op rfl rfl rfl (s_and rfl (kn rfl) (fun hb => kn_opt rfl hb)) (w_as rfl rfl rfl rfl rfl .nil))))))))))) ?_
    try refine e_fl ?_
    exact e_return rfl rfl (.tmp (kn rfl) (.nil)) (Imp.refl _) rfl
theorem tables_any (w : World) (A : Nat → Addr) (m : Int) (hE : Errs w A) (hL : Lx w A m) (hT : ErrT w) (s : List UInt8) : Calls Tryz.prog 3 #[.string (str s)] w fun e w' => e = .returned (.bool true) ∧ Below w.heap.size w w' := by
  have hsub := glB_sub A m
  have hG := glB_ok (m := m) hE hL
  have key : Calls Tryz.prog 3 #[.string (str s)] w (Gives w (fun _ => False) (· = .part (bP true))) := by
    rcases of_one (glB_of A m) s with ⟨f, hf, hc, hof⟩ | ⟨f, li, co, n, hof⟩
    · cases htb : table f with
      | ok L => exact tables_ok hsub w hG s f hf hc L htb hof
      | error e => exact tables_err hsub w hG hE hT s f hf hc e.1 e.2.1 e.2.2 htb hof
    · exact tables_bad hsub w hG s f li co n hof
  refine key.mono ?_
  rintro e w' ⟨v, y, rfl, rfl, hb, hv⟩
  have hv1 : Lies w' _ (.cell (.bool true)) v := hv (fun _ => 0) (fun _ => undef)
  exact ⟨by rw [hv1.cell_eq], hb⟩
end Go.Proofs.YtekeanikgcpijaaGreatDoor
namespace Go.Proofs.YtekeanikgcpijaaGreatDoor
open Go.RowKit Go.ChangeShapes
structure Ent where
  n : String
  g : Nat
  text : List UInt8
def Ent.laid (e : Ent) : String × DataW Unit := (e.n, .iface "*errors.errorString" (.ptr (.agg [.lit (.string e.text)])))
def ents : List Ent := [
  ⟨"redline/api.ErrRange", 3, [97, 32, 110, 117, 109, 98, 101, 114, 32, 105, 115, 32, 111, 117, 116, 32, 111, 102, 32, 105, 116, 115, 32, 114, 97, 110, 103, 101]⟩,
  ⟨"redline/api.ErrShort", 4, [115, 111, 109, 101, 116, 104, 105, 110, 103, 32, 105, 115, 32, 109, 105, 115, 115, 105, 110, 103, 32, 97, 116, 32, 116, 104, 101, 32, 101, 110, 100]⟩,
  ⟨"redline/api.ErrLong", 0, [116, 104, 101, 114, 101, 32, 105, 115, 32, 109, 111, 114, 101, 32, 116, 104, 97, 110, 32, 109, 97, 121, 32, 98, 101]⟩,
  ⟨"redline/api.ErrVarint", 5, [105, 116, 32, 105, 115, 32, 110, 111, 32, 118, 97, 114, 105, 110, 116]⟩,
  ⟨"redline/api.ErrTag", 6, [105, 116, 32, 105, 115, 32, 110, 111, 32, 116, 97, 103]⟩,
  ⟨"redline/api.ErrGroup", 7, [116, 104, 101, 114, 101, 32, 97, 114, 101, 32, 110, 111, 32, 103, 114, 111, 117, 112, 115]⟩,
  ⟨"redline/api.ErrRune", 8, [105, 116, 32, 105, 115, 32, 110, 111, 32, 85, 84, 70, 45, 56]⟩,
  ⟨"redline/api.ErrDepth", 9, [105, 116, 32, 103, 111, 101, 115, 32, 116, 111, 111, 32, 100, 101, 101, 112]⟩,
  ⟨"redline/api.ErrForm", 10, [105, 116, 32, 105, 115, 32, 110, 111, 116, 32, 111, 102, 32, 105, 116, 115, 32, 102, 111, 114, 109]⟩,
  ⟨"redline/api.ErrName", 11, [116, 104, 101, 114, 101, 32, 105, 115, 32, 110, 111, 32, 115, 117, 99, 104, 32, 110, 97, 109, 101]⟩,
  ⟨"redline/api.ErrDup", 1, [105, 116, 32, 105, 115, 32, 116, 104, 101, 114, 101, 32, 97, 108, 114, 101, 97, 100, 121]⟩,
  ⟨"redline/api.ErrKind", 12, [105, 116, 32, 105, 115, 32, 111, 102, 32, 97, 110, 111, 116, 104, 101, 114, 32, 107, 105, 110, 100]⟩,
  ⟨"redline/api.ErrClash", 13, [105, 116, 32, 105, 115, 32, 110, 111, 116, 32, 119, 104, 97, 116, 32, 105, 116, 32, 119, 97, 115]⟩,
  ⟨"redline/api.ErrNone", 14, [116, 104, 101, 114, 101, 32, 105, 115, 32, 110, 111, 110, 101]⟩,
  ⟨"redline/api.ErrFull", 15, [116, 104, 101, 114, 101, 32, 105, 115, 32, 110, 111, 32, 109, 111, 114, 101, 32, 114, 111, 111, 109]⟩,
  ⟨"redline/api.ErrState", 16, [105, 116, 32, 99, 97, 110, 32, 110, 111, 116, 32, 98, 101, 32, 100, 111, 110, 101, 32, 105, 110, 32, 116, 104, 105, 115, 32, 115, 116, 97, 116, 101]⟩,
  ⟨"redline/api.ErrPower", 17, [116, 104, 101, 32, 112, 111, 119, 101, 114, 32, 105, 115, 32, 103, 111, 110, 101]⟩,
  ⟨"redline/api.ErrSum", 18, [116, 104, 101, 32, 115, 117, 109, 32, 105, 115, 32, 110, 111, 116, 32, 114, 105, 103, 104, 116]⟩,
  ⟨"redline/api.ErrConflict", 19, [98, 111, 116, 104, 32, 115, 105, 100, 101, 115, 32, 99, 104, 97, 110, 103, 101, 100, 32, 105, 116]⟩]
def Sent (W : World) (e : Ent) (a : Addr) : Prop :=
  W.cell? ⟨e.g, 0, none⟩ = some (.iface tE (.pointer (some a))) ∧ (∃ s : ByteArray, W.cell? a = some (.string s) ∧ s.data.toList = e.text) ∧ ∃ c t, W.heap[a.block]? = some (.cells c t (0, 0))
theorem star : "*" ++ "errors.errorString" = "*errors.errorString" := by decide
theorem rowE (u : TypeId) (h : Tryz.prog.typeName? 3 u = some "*errors.errorString") : u = tE :=
  typeName_ptr_named (nm := "errors.errorString") (by rw [star]; kernel_rfl) (by kernel_rfl) (by decide) u (by rw [star]; exact h)
theorem cellsES : Tryz.prog.cellsOf 232 = 1 := by kernel_rfl
theorem cellsStr : Tryz.prog.cellsOf 9 = 1 := by kernel_rfl
set_option maxRecDepth 100000 in
theorem sent_head {W : World} {e : Ent} {r : List (String × DataW Unit)} (h : laidMet Tryz.prog (e.laid :: r) W) (hg : Tryz.prog.globalNamed e.n = some e.g) (ht : (Tryz.prog.globals[e.g]?).map (·.type) = some 28) : ∃ a, Sent W e a := by
  obtain ⟨ps, ⟨g, t, ⟨cl⟩, f, p, q, hg1, ht1, hv, hd, _, he⟩, _, hrows⟩ := h
  cases Option.some.inj (hg.symm.trans hg1)
  cases Option.some.inj (ht.symm.trans ht1)
  have hok : ∀ u v, cl = [.iface u v] → Value.okWide Tryz.prog W .any 0 u v := fun u v hc => by
    subst hc
    exact (hrows e.g 0 (by rw [he]; simp [MemPlace.row])).2 u v (by simpa using World.var?_cell hg1 hv 0)
  obtain ⟨a, s, rfl, hca, hs, _, rfl⟩ := errorString_of_trod Tryz.underlying28 rowE Tryz.underlying213 Tryz.underlying232 rfl rfl Tryz.underlying9 cellsES cellsStr hd hok
  exact ⟨a, by simpa using World.var?_cell hg1 hv 0, ⟨s, hca, hs⟩, (hrows a.block a.off (by rw [he]; simp [MemPlace.row])).1⟩
theorem sents {W : World} : ∀ (es : List Ent), (∀ e ∈ es, Tryz.prog.globalNamed e.n = some e.g ∧ (Tryz.prog.globals[e.g]?).map (·.type) = some 28) → laidMet Tryz.prog (es.map Ent.laid) W →
    ∃ A : Nat → Addr, ∀ (i : Nat) e, es[i]? = some e → Sent W e (A i)
  | [], _, _ => ⟨fun _ => ⟨0, 0, none⟩, fun i e h => by simp at h⟩
  | e :: es, hes, h => by
    obtain ⟨a, ha⟩ := sent_head (r := es.map Ent.laid) h (hes e List.mem_cons_self).1 (hes e List.mem_cons_self).2
    obtain ⟨A, hA⟩ := sents es (fun x hx => hes x (List.mem_cons_of_mem _ hx)) h.tail
    refine ⟨fun i => match i with | 0 => a | i + 1 => A i, fun i x hx => ?_⟩
    match i, hx with
    | 0, hx => simp at hx; subst hx; exact ha
    | i + 1, hx => exact hA i x (by simpa using hx)
theorem ents_ok : ∀ e ∈ ents, Tryz.prog.globalNamed e.n = some e.g ∧ (Tryz.prog.globals[e.g]?).map (·.type) = some 28 := by
  have h : (ents.all fun e => decide (Tryz.prog.globalNamed e.n = some e.g ∧ (Tryz.prog.globals[e.g]?).map (·.type) = some 28)) = true := by kernel_rfl
  exact fun e he => of_decide_eq_true (List.all_eq_true.1 h e he)
theorem ents_apart : ((List.range 19).all fun i => (List.range 19).all fun j => i == j || (ents[i]?.map (·.text)) != (ents[j]?.map (·.text))) = true := by kernel_rfl
theorem ents_gs : ents.map (·.g) = errGs := rfl
theorem ents_len : ents.length = 19 := rfl
theorem errs_met {W : World} (h : laidMet Tryz.prog (ents.map Ent.laid) W) : ∃ A, Errs W A := by
  obtain ⟨A, hA⟩ := sents ents ents_ok h
  have hget : ∀ i, i < 19 → ∃ e, ents[i]? = some e := fun i hi => ⟨ents[i]'(by rw [ents_len]; exact hi), List.getElem?_eq_getElem _⟩
  refine ⟨A, ⟨fun i g hg => ?_, fun i hi => ?_, fun i j hi hj hne he => ?_⟩⟩
  · rw [← ents_gs, List.getElem?_map] at hg
    obtain ⟨e, he, rfl⟩ := Option.map_eq_some_iff.1 hg
    exact (hA i e he).1
  · obtain ⟨e, he⟩ := hget i hi
    exact (hA i e he).2.2
  · obtain ⟨x, hx⟩ := hget i hi
    obtain ⟨y, hy⟩ := hget j hj
    obtain ⟨_, ⟨s, hs, hsx⟩, _⟩ := hA i x hx
    obtain ⟨_, ⟨s', hs', hsy⟩, _⟩ := hA j y hy
    rw [he, hs'] at hs
    cases hs
    have h1 := List.all_eq_true.1 (List.all_eq_true.1 ents_apart i (List.mem_range.2 hi)) j (List.mem_range.2 hj)
    rw [hx, hy] at h1
    simp only [Option.map_some, Bool.or_eq_true, beq_iff_eq, hne, false_or, bne_iff_ne, ne_eq, Option.some.injEq] at h1
    exact h1 (hsx.symm.trans hsy)
end Go.Proofs.YtekeanikgcpijaaGreatDoor
namespace Go.Proofs.YtekeanikgcpijaaGreatDoor
open Go.RowKit Go.ChangeShapes
theorem laid_parts {l r : List (String × DataW Unit)} {x : String × DataW Unit} {W : World} (h : laidMetH Tryz.prog l W) (hx : (l.filter fun x => x.2.handleName?.isSome) = [x]) (hr : (l.filter fun x => x.2.handleName?.isNone) = r) : laidMet Tryz.prog r W ∧ handlesMet Tryz.prog [x] W := by
  unfold laidMetH at h
  rw [hx, hr] at h
  exact h
theorem etG : Tryz.prog.globalNamed "errors.errorType" = some 2 := by kernel_rfl
theorem etR : (Tryz.prog.cutTypes.find? (·.1 == "internal/reflectlite.rtype")).map (·.2) = some 173 := by kernel_rfl
theorem etOne : ((List.range 244).filter fun t => Tryz.prog.rowNamed t [101, 114, 114, 111, 114]) = [28] := by kernel_rfl
theorem etSize : Tryz.prog.types.size = 244 := by kernel_rfl
theorem errT_of {W : World} (h : handlesMet Tryz.prog [("errors.errorType", Rows.laid_errors_errorType)] W) : ErrT W := by
  obtain ⟨name, u, ty, e1, e2, e3, e4, e5⟩ := h _ (List.mem_singleton.2 rfl)
  have en : name = [101, 114, 114, 111, 114] := (Option.some.inj e1).symm
  subst en
  obtain rfl := Option.some.inj (etR.symm.trans e2)
  have hm : ty ∈ (List.range 244).filter fun t => Tryz.prog.rowNamed t [101, 114, 114, 111, 114] := List.mem_filter.2 ⟨List.mem_range.2 (by rw [← etSize]; exact e3), e4⟩
  rw [etOne] at hm
  obtain rfl := List.mem_singleton.1 hm
  have hh : typeHandle Tryz.prog 28 = .pointer (some ⟨21, 28, none⟩) := by kernel_rfl
  rw [hh] at e5
  unfold ErrT
  simpa using World.var?_cell etG e5 0
theorem lx_of {W : World} {A : Nat → Addr} (hE : Errs W A) (hsh : W.ShapedOpen Tryz.prog) : ∃ m, Lx W A m := by
  obtain ⟨m, hm⟩ := Tryz.laysM219.s1_3 W hsh
  exact ⟨m, hE.holds 0 _ rfl, hE.holds 2 _ rfl, hE.holds 8 _ rfl, hm⟩
theorem wrap_laid_shaped {H : Type} {enc : TypeId × Value → H} {a : Assume} {C : Checked} {os : Os} {f : FuncId} {fn : Func} {s : ChangeSpec} {conds : List PathCond} {apart fresh handsOn again : Bool} {X : World → Array Value → Prop}
    (hX : ∀ (w w' : World) (args : Array Value), w.heap = w'.heap → X w args → X w' args)
    (own : ownKnob C.prog.godebug = none) (started : os.Started) (noInit : C.prog.inits.idxOf? f = none) (hfn : C.prog.funcs[f]? = some fn)
    (witness : ∃ (w : World) (tape : Tape) (i : Input), w.os = os ∧ (w.forCall tape i).Shaped C.prog ∧ i.vars = [] ∧ Input.okWide C.prog (w.forCall tape i) .any w.heap.size f i ∧
      ((s.pre enc C.prog fn conds apart (w.forCall tape i).memory i.args ∧ X (w.forCall tape i).memory i.args) ∧ sizedMet enc C.prog fn (OpenSpec.ofChange s) apart (w.forCall tape i).memory i.args) ∧ a.holds C.prog (lone (Frame.enter C.prog f i.args .normal) [] (w.forCall tape i)))
    (contract : ∀ (W : World) (base : Nat) (args : Array Value) (ds gs : List (DataW H)) (before : List MemPlace),
      (∀ (j : Nat) t v, fn.params[j]? = some t → args[j]? = some v → Value.okWide C.prog W .any base t v) →
      DataW.Whole enc C.prog fn.params.toList s.vars apart W args.toList ds gs before → X W args → W.ShapedOpen C.prog →
      Calls C.prog f args W fun e W' => ∃ v, e = .returned v ∧ s.post enc C.prog fn apart fresh handsOn again W args v W') :
    ReturnsInHanded a C os f .any (fun w args => (s.pre enc C.prog fn conds apart w args ∧ X w args) ∧ sizedMet enc C.prog fn (OpenSpec.ofChange s) apart w args) (s.post enc C.prog fn apart fresh handsOn again) := by
  refine returnsInHanded_of_calls own started noInit witness ?_
  intro w tape i _ hsh _ hok hpre _
  obtain ⟨_, _, _, fn', hfn', _, _, _, _, hval⟩ := hok
  obtain rfl : fn' = fn := Option.some.inj (hfn'.symm.trans hfn)
  obtain ⟨⟨⟨ds, gs, before, hw, _⟩, hx⟩, _⟩ := hpre
  refine (contract (w.forCall tape i) w.heap.size i.args ds gs before hval (DataW.Whole.of_heap (w' := w.forCall tape i) (by rfl) hw) (hX _ _ _ (by rfl) hx) hsh).mono fun e W' ⟨v, he, hp⟩ => ?_
  subst he
  exact ChangeSpec.post_blind hp
end Go.Proofs.YtekeanikgcpijaaGreatDoor
namespace Go.Proofs.YtekeanikgcpijaaGreatDoor
open Go.RowKit Go.ChangeShapes
theorem tables_laid {W : World} (h : laidMetH Tryz.prog Rows.scopesTablesRow.laid W) (hsh : W.ShapedOpen Tryz.prog) : ∃ A m, Errs W A ∧ Lx W A m ∧ ErrT W := by
  obtain ⟨h1, h2⟩ := laid_parts (r := ents.map Ent.laid) (x := ("errors.errorType", Rows.laid_errors_errorType)) h (by kernel_rfl) (by kernel_rfl)
  obtain ⟨A, hE⟩ := errs_met h1
  obtain ⟨m, hL⟩ := lx_of hE hsh
  exact ⟨A, m, hE, hL, errT_of h2⟩
end Go.Proofs.YtekeanikgcpijaaGreatDoor
