/- Part 40 of what the last text of this claim is proved by: walks over the program, and the math behind them. Conditions: as each theorem says. -/
import Derived.Test.YtfcjeciepadmeaaGreatDoorTx39
import Derived.Test.YtfcjeciepadmeaaGreatDoorProg
import Derived.ProofKit
import Derived.LaidMore
import Derived.LaidLaws
import Derived.Stop.LaidErr
import Derived.MakeChecks
import Derived.Test.YtfcjeciepadmeaaGreatDoorRows
import Derived.LaidHandle
import Derived.HandedShaped
import Derived.OpenShut
import Derived.Carry
import Derived.ChangeSame
namespace Go.Proofs.YtfcjeciepadmeaaGreatDoor
open Go.RowKit
theorem lexTok {l : List UInt8} {i j k n : Nat} {t : List UInt8} {ts : List (Tok × Nat)} {e ea : Nat} (h1 : i < l.length) (h2 : lfirst (l.drop i) = (⟨k, t, n⟩, j, 0)) (h3 : (lcut (l.drop i)).1 ≠ 0) (h : Lex l (i + j) ts e ea) : Lex l i ((⟨k, t, n⟩, i) :: ts) e ea := by
 have := Lex.tok (l := l) (i := i) h1 (by rw [h2]) h3 (by rw [h2]; exact h)
 rwa [h2] at this
theorem lexGap {l : List UInt8} {i j : Nat} {t : Tok} {ts : List (Tok × Nat)} {e ea : Nat} (h1 : i < l.length) (h2 : lfirst (l.drop i) = (t, j, 0)) (h3 : (lcut (l.drop i)).1 = 0) (h : Lex l (i + j) ts e ea) : Lex l i ts e ea :=
 Lex.gap (l := l) (i := i) h1 (by rw [h2]) h3 (by rw [h2]; exact h)
abbrev exT : List UInt8 := [115, 121, 110, 116, 97, 120, 32, 61, 32, 34, 112, 114, 111, 116, 111, 51, 34, 59, 32, 109, 101, 115, 115, 97, 103, 101, 32, 65, 32, 123, 32, 105, 110, 116, 51, 50, 32, 120, 32, 61, 32, 49, 59, 32, 125]
abbrev exK : List (Tok × Nat) := [(⟨1, [115, 121, 110, 116, 97, 120], 0⟩, 0), (⟨4, [61], 0⟩, 7), (⟨3, [112, 114, 111, 116, 111, 51], 0⟩, 9), (⟨4, [59], 0⟩, 17), (⟨1, [109, 101, 115, 115, 97, 103, 101], 0⟩, 19), (⟨1, [65], 0⟩, 27), (⟨4, [123], 0⟩, 29), (⟨1, [105, 110, 116, 51, 50], 0⟩, 31), (⟨1, [120], 0⟩, 37), (⟨4, [61], 0⟩, 39), (⟨2, [49], 1⟩, 41), (⟨4, [59], 0⟩, 42), (⟨4, [125], 0⟩, 44)]
abbrev exG : Tok := ⟨0, [], 0⟩
theorem exL : Lex exT 0 exK 0 0 :=
 lexTok (j := 6) (by decide) (by decide +kernel) (by decide +kernel) <|
 lexGap (j := 1) (t := exG) (by decide) (by decide +kernel) (by decide +kernel) <|
 lexTok (j := 1) (by decide) (by decide +kernel) (by decide +kernel) <|
 lexGap (j := 1) (t := exG) (by decide) (by decide +kernel) (by decide +kernel) <|
 lexTok (j := 8) (by decide) (by decide +kernel) (by decide +kernel) <|
 lexTok (j := 1) (by decide) (by decide +kernel) (by decide +kernel) <|
 lexGap (j := 1) (t := exG) (by decide) (by decide +kernel) (by decide +kernel) <|
 lexTok (j := 7) (by decide) (by decide +kernel) (by decide +kernel) <|
 lexGap (j := 1) (t := exG) (by decide) (by decide +kernel) (by decide +kernel) <|
 lexTok (j := 1) (by decide) (by decide +kernel) (by decide +kernel) <|
 lexGap (j := 1) (t := exG) (by decide) (by decide +kernel) (by decide +kernel) <|
 lexTok (j := 1) (by decide) (by decide +kernel) (by decide +kernel) <|
 lexGap (j := 1) (t := exG) (by decide) (by decide +kernel) (by decide +kernel) <|
 lexTok (j := 5) (by decide) (by decide +kernel) (by decide +kernel) <|
 lexGap (j := 1) (t := exG) (by decide) (by decide +kernel) (by decide +kernel) <|
 lexTok (j := 1) (by decide) (by decide +kernel) (by decide +kernel) <|
 lexGap (j := 1) (t := exG) (by decide) (by decide +kernel) (by decide +kernel) <|
 lexTok (j := 1) (by decide) (by decide +kernel) (by decide +kernel) <|
 lexGap (j := 1) (t := exG) (by decide) (by decide +kernel) (by decide +kernel) <|
 lexTok (j := 1) (by decide) (by decide +kernel) (by decide +kernel) <|
 lexTok (j := 1) (by decide) (by decide +kernel) (by decide +kernel) <|
 lexGap (j := 1) (t := exG) (by decide) (by decide +kernel) (by decide +kernel) <|
 lexTok (j := 1) (by decide) (by decide +kernel) (by decide +kernel) <|
 .done (by decide)
abbrev exF : Fld := ⟨[120], [105, 110, 116, 51, 50], [], [], 1, 1, 0, 0, 1, 38⟩
abbrev exM : Msg := .mk [65] [exF] [] [] [] [] [] 1 28
theorem exA : sFile (tksOf exT exK) = .ok ⟨[], [exM], []⟩ := by kernel_rfl
theorem exS : sAns exT exK 0 0 = (⟨[], [exM], []⟩, 0, 0, 0) := (if_pos rfl).trans (sParse_fil exA)
theorem exO {gls : List (Nat × List Value)} {A : Nat → Addr} {m : Int} (hg : OfG gls A m) : EF Tryz.prog gls 6 [sP exT] (.tup [.many [.cell (.string (str [])), .row 9 [exM].length ([exM].flatMap Msg.dats), .row 4 0 []], nilP]) := by
 have h := of_y hg exT (by decide) exK 0 0 exL
 rw [exS] at h
 exact h
set_option maxRecDepth 100000 in
theorem alive_y {gls : List (Nat × List Value)} {A : Nat → Addr} {m : Int} (hg : OfG gls A m) : EF Tryz.prog gls 5 [] (.part (bP true)) := by
 refine ef_enter 43 Tryz.func5 rfl rfl rfl fun w D => ?_
 try refine e_fl ?_
 refine e_plain (w_as rfl rfl rfl rfl rfl .nil) ?_
 try refine e_fl ?_
 refine e_list ?_
 refine l_op (s_call rfl (by kernel_rfl) (exO hg) ⟨(kn rfl), trivial⟩) ?_
 refine l_mv ?_
 refine l_ex ?_
 refine l_ex ?_
 refine e_alloc 1 [.is (.string ⟨#[]⟩), .is (.slice none 0 0), .is (.slice none 0 0)] rfl rfl rfl rfl zr_26 (fun w D M V => ⟨rfl, fun j x v h1 h2 => cfit_is _ h1 h2 rfl⟩) rfl rfl rfl rfl ?_
 refine e_storew rfl rfl rfl (kn rfl) rfl (kn rfl) rfl rfl sz_26 ?_
 refine l_as ?_
 refine e_nil ?_
 try refine e_fl ?_
 refine e_plain (w_mv rfl rfl rfl rfl rfl (w_op rfl rfl rfl (s_nil_eql rfl (kn rfl) ifc_28) (w_mv rfl rfl rfl rfl rfl (Walk.gd _ rfl rfl rfl (fun h => s_faddr_box rfl (kn rfl) off_26_1) (Walk.gd _ rfl rfl rfl (fun h => s_load1_box rfl (kn_opt rfl h) rfl rfl one_23) (Walk.gd _ rfl rfl rfl (fun h => s_len rfl (kn_opt rfl h) sle_23) (Walk.gd _ rfl rfl rfl (fun h => s_bin rfl (kn_opt rfl h) (kn rfl) v_eql) (w_op rfl rfl rfl (s_and rfl (kn rfl) (fun hb => kn_opt rfl hb)) (w_mv rfl rfl rfl rfl rfl (Walk.gd _ rfl rfl rfl (fun h => s_faddr_box rfl (kn rfl) off_26_1) (Walk.gd _ rfl rfl rfl (fun h => s_load1_box rfl (kn_opt rfl h) rfl rfl one_23) (Walk.gd _ rfl rfl rfl (fun h => s_index rfl (kn_opt rfl h) (kn rfl) (by omega) rfl Msg.dats_len sle_23 esz_23 (dats_md exM)) (Walk.gd _ rfl rfl rfl (fun h => s_faddr_ref rfl (kn_opt rfl h) off_52_0) (Walk.gd _ rfl rfl rfl (fun h => s_load1_ref rfl (kn_opt rfl h) one_9) (Walk.gd _ rfl rfl rfl (fun h => s_bin rfl (kn_opt rfl h) (kn rfl) (v_seql (b := [65]))) (w_op rfl rfl rfl (s_and rfl (kn rfl) (fun hb => kn_opt rfl hb)) (w_mv rfl rfl rfl rfl rfl (Walk.gd _ rfl rfl rfl (fun h => s_faddr_box rfl (kn rfl) off_26_1) (Walk.gd _ rfl rfl rfl (fun h => s_load1_box rfl (kn_opt rfl h) rfl rfl one_23) (Walk.gd _ rfl rfl rfl (fun h => s_index rfl (kn_opt rfl h) (kn rfl) (by omega) rfl Msg.dats_len sle_23 esz_23 (dats_md exM)) (Walk.gd _ rfl rfl rfl (fun h => s_faddr_ref rfl (kn_opt rfl h) off_52_1) (Walk.gd _ rfl rfl rfl (fun h => s_load1_ref rfl (kn_opt rfl h) one_48) (Walk.gd _ rfl rfl rfl (fun h => s_len rfl (kn_opt rfl h) sle_48) (Walk.gd _ rfl rfl rfl (fun h => s_bin rfl (kn_opt rfl h) (kn rfl) v_eql) (w_op rfl rfl rfl (s_and rfl (kn rfl) (fun hb => kn_opt rfl hb)) (w_mv rfl rfl rfl rfl rfl (Walk.gd _ rfl rfl rfl (fun h => s_faddr_box rfl (kn rfl) off_26_1) (Walk.gd _ rfl rfl rfl (fun h => s_load1_box rfl (kn_opt rfl h) rfl rfl one_23) (Walk.gd _ rfl rfl rfl (fun h => s_index rfl (kn_opt rfl h) (kn rfl) (by omega) rfl Msg.dats_len sle_23 esz_23 (dats_md exM)) (Walk.gd _ rfl rfl rfl (fun h => s_faddr_ref rfl (kn_opt rfl h) off_52_1) (Walk.gd _ rfl rfl rfl (fun h => s_load1_ref rfl (kn_opt rfl h) one_48) (Walk.gd _ rfl rfl rfl (fun h => s_index rfl (kn_opt rfl h) (kn rfl) (by omega) (q := exF) rfl Fld.dats_len sle_48 esz_48 rfl) (Walk.gd _ rfl rfl rfl (fun h => s_faddr_ref rfl (kn_opt rfl h) off_56_1) (Walk.gd _ rfl rfl rfl (fun h => s_load1_ref rfl (kn_opt rfl h) one_9) (Walk.gd _ rfl rfl rfl (fun h => s_bin rfl (kn_opt rfl h) (kn rfl) (v_seql (b := [105, 110, 116, 51, 50]))) (w_op rfl rfl rfl (s_and rfl (kn rfl) (fun hb => kn_opt rfl hb)) (w_as rfl rfl rfl rfl rfl .nil))))))))))))))))))))))))))))))))))))) ?_
 try refine e_fl ?_
 exact e_return rfl rfl (.tmp (kn rfl) (.nil)) (Imp.of_eq (by rfl)) rfl
set_option maxRecDepth 100000 in
theorem texts_core {gls : List (Nat × List Value)} {A : Nat → Addr} {m : Int} (hg : OfG gls A m) (w : World) (hG : GlOK gls w) (s : List UInt8) (f : Fil) (hf : f.fine) (p : Part) (b li co : Int) (hof : EF Tryz.prog gls 6 [sP s] (.tup [FQ f, p])) (hr : EF Tryz.prog gls 7 [sP s] (.tup [FQ f, iP b, iP li, iP co]))
  (hF : EFw Tryz.prog ⟨w, fun _ => False, fun _ => False, 37, gls, [], fun _ => 0⟩ 8 [p, iP b, iP li, iP co] (.part (bP true))) :
  Calls Tryz.prog 3 #[.string (str s)] w (Gives w (fun _ => False) (· = .part (bP true))) := by
 have hOf : EF Tryz.prog gls 10 [FQ f] (.part (FQ f)) := EFx.more (of_ef f hf) fun x hx => (by cases hx)
 have hSm : EF Tryz.prog gls 9 [.many f.dats, .many f.dats] (.part (bP (cdec (f = f)))) := EFx.more (same_ef f f hf) fun x hx => (by cases hx)
 have hc : cdec (f = f) = true := by simp [cdec]
 rw [hc] at hSm
 refine call_enter (ps := [sP s]) 37 Tryz.func3 rfl rfl rfl w (fun _ => False) [.string (str s)] (fun g h => h.elim) hG ⟨.cell _, trivial⟩ ?_
 try refine e_fl ?_
 refine e_plain (w_as rfl rfl rfl rfl rfl .nil) ?_
 try refine e_fl ?_
 refine e_plain (w_op rfl rfl rfl (s_call rfl (by kernel_rfl) (alive_y hg) trivial) (w_op rfl rfl rfl (s_not rfl (kn rfl)) .nil)) ?_
 try refine e_fl ?_
 refine c_no ?_
 try refine e_fl ?_
 refine e_plain (w_mv rfl rfl rfl rfl rfl (w_op rfl rfl rfl (s_slen rfl (kn rfl) str_9) (w_op rfl rfl rfl (s_bin rfl (kn rfl) (kn rfl) v_gtr) .nil))) ?_
 try refine e_fl ?_
 refine e_cond rfl (fun h => ?_) (fun _ => ?_)
 ·try refine e_fl ?_
  refine e_plain (w_as rfl rfl rfl rfl rfl .nil) ?_
  try refine e_fl ?_
  exact e_return rfl rfl (.tmp (kn rfl) (.nil)) (Imp.refl _) rfl
 try refine e_fl ?_
 refine e_list ?_
 refine l_mv ?_
 refine l_op (s_call rfl (by kernel_rfl) (hof) ⟨(kn rfl), trivial⟩) ?_
 refine l_mv ?_
 refine l_ex ?_
 refine l_ex ?_
 refine e_alloc 3 [.is (.string ⟨#[]⟩), .is (.slice none 0 0), .is (.slice none 0 0)] rfl rfl rfl rfl zr_26 (fun w D M V => ⟨rfl, fun j x v h1 h2 => cfit_is _ h1 h2 rfl⟩) rfl rfl rfl rfl ?_
 refine e_storew rfl rfl rfl (kn rfl) rfl (kn rfl) rfl rfl sz_26 ?_
 refine l_as ?_
 refine e_nil ?_
 try refine e_fl ?_
 refine e_list ?_
 refine l_mv ?_
 refine l_op (s_call rfl (by kernel_rfl) (hr) ⟨(kn rfl), trivial⟩) ?_
 refine l_mv ?_
 refine l_ex ?_
 refine l_ex ?_
 refine l_ex ?_
 refine l_ex ?_
 refine e_alloc 5 [.is (.string ⟨#[]⟩), .is (.slice none 0 0), .is (.slice none 0 0)] rfl rfl rfl rfl zr_34 (fun w D M V => ⟨rfl, fun j x v h1 h2 => cfit_is _ h1 h2 rfl⟩) rfl rfl rfl rfl ?_
 refine e_storew rfl rfl rfl (kn rfl) rfl (kn rfl) rfl rfl sz_34 ?_
 refine l_as ?_
 refine l_as ?_
 refine l_as ?_
 refine e_nil ?_
 try refine e_fl ?_
 refine e_draw mixed (by kernel_rfl) (w_mv rfl rfl rfl rfl rfl (w_mv rfl rfl rfl rfl rfl (w_mv rfl rfl rfl rfl rfl (w_mv rfl rfl rfl rfl rfl (w_op rfl rfl rfl (s_callw rfl (by kernel_rfl) hF ⟨kn rfl, kn rfl, kn rfl, kn rfl, trivial⟩) (w_mv rfl rfl rfl rfl rfl (Walk.gd _ rfl rfl rfl (fun h => s_loadn_box (ds := [_, _, _]) 3 rfl (kn rfl) rfl rfl agg_26 sz_26 rfl) (Walk.gd _ rfl rfl rfl (fun h => s_call rfl (by kernel_rfl) (hOf) ⟨(kn_opt rfl h), trivial⟩) (Walk.gd _ rfl rfl rfl (fun h => s_loadn_box (ds := [_, _, _]) 3 rfl (kn rfl) rfl rfl agg_34 sz_34 rfl) (Walk.gd _ rfl rfl rfl (fun h => s_call rfl (by kernel_rfl) (hSm) ⟨(kn_opt rfl h), ⟨(kn_opt rfl h), trivial⟩⟩) (w_op rfl rfl rfl (s_and rfl (kn rfl) (fun hb => kn_opt rfl hb)) (w_as rfl rfl rfl rfl rfl .nil)))))))))))) ?_
 try refine e_fl ?_
 exact e_return rfl rfl (.tmp (kn rfl) (.nil)) (Imp.of_eq (by rfl)) rfl
theorem sFile_fine {l : List Tk} (hl : l.length ≤ 100000) {f : Fil} (h : sFile l = .ok f) : f.fine := by
 rw [sFile_syn] at h
 split at h
 ·cases h
 rename_i q hq
 have hq := sSyn_le hq
 split at h
 ·cases h
 rename_i pk u hpk
 refine sParts_fine hl _ _ u ⟨Nat.zero_le _, Nat.zero_le _, fun x hx => (by cases hx), fun x hx => (by cases hx)⟩ (Nat.zero_le _) (Nat.zero_le _) ?_ h
 unfold sPackage at hpk
 split at hpk
 ·split at hpk
  ·cases hpk
  rename_i hd
  have := sDotted_ok hd
  split at hpk
  ·cases hpk
  rename_i hw
  have := sWant_ok hw
  injection hpk with hpk
  injection hpk with h1 h2
  subst h2
  omega
 ·injection hpk with hpk
  injection hpk with h1 h2
  subst h2
  exact hq
theorem fil0_fine : fil0.fine := ⟨Nat.zero_le _, Nat.zero_le _, fun x hx => (by cases hx), fun x hx => (by cases hx)⟩
theorem of_both {gls : List (Nat × List Value)} {A : Nat → Addr} {m : Int} (hg : OfG gls A m) (s : List UInt8) : ∃ x : An, x.1.fine ∧ ((x.2.1 = 0 ∧ x.2.2.1 = 0 ∧ x.2.2.2 = 0) ∨ ∃ k, x.2.1 = k + 1 ∧ k < 19) ∧ EF Tryz.prog gls 6 [sP s] (progY A x) ∧ EF Tryz.prog gls 7 [sP s] (parseR x) := by
 by_cases hs : s.length ≤ 4000
 ·obtain ⟨T, b, ea, hT⟩ := lex_total s s.length 0 (by omega)
  refine ⟨sAns s T b ea, ?_⟩
  have h1 := of_y hg s hs T b ea hT
  have h2 := refOf_y gls s hs T b ea hT
  by_cases h0 : b = 0
  ·have ha : sAns s T b ea = sParse (tksOf s T) := if_pos h0
   have hk := tksOf_ok hs hT
   cases hf : sFile (tksOf s T) with
   | ok f =>
    rw [ha, sParse_fil hf] at h1 h2 ⊢
    exact ⟨sFile_fine hk.len hf, .inl ⟨rfl, rfl, rfl⟩, h1, h2⟩
   | error e =>
    obtain ⟨hp, hc⟩ := sParse_err hf
    rw [ha, hp] at h1 h2 ⊢
    refine ⟨fil0_fine, .inr ?_, h1, h2⟩
    rcases hc with hc | hc
    ·exact ⟨7, hc, by decide⟩
    ·exact ⟨8, hc, by decide⟩
  ·have ha : sAns s T b ea = (fil0, b, (placeAt s ea).1, (placeAt s ea).2) := if_neg h0
   have := hT.err.1
   rw [ha] at h1 h2 ⊢
   exact ⟨fil0_fine, .inr ⟨b - 1, by dsimp only; omega, by omega⟩, h1, h2⟩
 ·exact ⟨(fil0, 3, 0, 0), fil0_fine, .inr ⟨2, rfl, by decide⟩, of_l hg s (by omega), refOf_l gls s (by omega)⟩
abbrev glA (A : Nat → Addr) (m : Int) : List (Nat × List Value) := [(2, [errV A 0]), (0, [errV A 2]), (8, [errV A 7]), (9, [errV A 8]), (20, [.int .i64 m])]
theorem glA_of (A : Nat → Addr) (m : Int) : OfG (glA A m) A m := ⟨⟨by simp [glA], by simp [glA], by simp [glA], by simp [glA]⟩, fun x hx => by
 rcases List.mem_cons.1 hx with rfl | hx
 ·simp [glA]
 ·rcases List.mem_cons.1 hx with rfl | hx
  ·simp [glA]
  ·cases hx⟩
theorem glA_ok {A : Nat → Addr} {m : Int} {w : World} (hE : Errs w A) (hL : Lx w A m) : GlOK (glA A m) w := fun g cs hg => by
 have key : ∀ {g : Nat} {v : Value}, w.cell? ⟨g, 0, none⟩ = some v → g < w.heap.size ∧ ∀ (j : Nat) u, [v][j]? = some u → w.cell? ⟨g, j, none⟩ = some u := fun {g v} h => ⟨World.block_lt_of_cell? w ⟨g, 0, none⟩ h, fun j u hu => by
  cases j with
  | zero => cases hu; exact h
  | succ j => cases hu⟩
 simp only [glA, List.mem_cons, List.not_mem_nil, or_false, Prod.mk.injEq] at hg
 rcases hg with ⟨rfl, rfl⟩ | ⟨rfl, rfl⟩ | ⟨rfl, rfl⟩ | ⟨rfl, rfl⟩ | ⟨rfl, rfl⟩
 ·exact key hL.range
 ·exact key hL.long
 ·exact key (hE.holds 7 _ rfl)
 ·exact key hL.form
 ·exact key hL.max
theorem texts_any (w : World) (A : Nat → Addr) (m : Int) (hE : Errs w A) (hL : Lx w A m) (hT : ErrT w) (s : List UInt8) : Calls Tryz.prog 3 #[.string (str s)] w fun e w' => e = .returned (.bool true) ∧ Below w.heap.size w w' := by
 obtain ⟨⟨f, n, li, co⟩, hf, hn, h1, h2⟩ := of_both (glA_of A m) s
 have key : Calls Tryz.prog 3 #[.string (str s)] w (Gives w (fun _ => False) (· = .part (bP true))) := by
  rcases hn with ⟨rfl, rfl, rfl⟩ | ⟨k, rfl, hk⟩
  ·exact texts_core (glA_of A m) w (glA_ok hE hL) s f hf nilP 0 0 0 h1 h2 fault0_w
  ·have e : (((k + 1 : Nat)) : Int) = (k : Int) + 1 := by omega
   have h2' : EF Tryz.prog (glA A m) 7 [sP s] (.tup [FQ f, iP ((k : Int) + 1), iP (li : Int), iP (co : Int)]) := by
    rw [← e]
    exact h2
   exact texts_core (glA_of A m) w (glA_ok hE hL) s f hf (fltR A li co (k + 1)) ((k : Int) + 1) (li : Int) (co : Int) h1 h2' (fault1_w (fun g h => h) hE hT k hk li co)
 refine key.mono ?_
 rintro e w' ⟨v, y, rfl, rfl, hb, hv⟩
 have hv1 : Lies w' _ (.cell (.bool true)) v := hv (fun _ => 0) (fun _ => undef)
 exact ⟨by rw [hv1.cell_eq], hb⟩
end Go.Proofs.YtfcjeciepadmeaaGreatDoor
namespace Go.Proofs.YtfcjeciepadmeaaGreatDoor
open Go.RowKit Go.ChangeShapes
structure Ent where
  n : String
  g : Nat
  text : List UInt8
def Ent.laid (e : Ent) : String × DataW Unit := (e.n, .iface "*errors.errorString" (.ptr (.agg [.lit (.string e.text)])))
def ents : List Ent := [
  ⟨"redline/api.ErrRange", 2, [97, 32, 110, 117, 109, 98, 101, 114, 32, 105, 115, 32, 111, 117, 116, 32, 111, 102, 32, 105, 116, 115, 32, 114, 97, 110, 103, 101]⟩,
  ⟨"redline/api.ErrShort", 3, [115, 111, 109, 101, 116, 104, 105, 110, 103, 32, 105, 115, 32, 109, 105, 115, 115, 105, 110, 103, 32, 97, 116, 32, 116, 104, 101, 32, 101, 110, 100]⟩,
  ⟨"redline/api.ErrLong", 0, [116, 104, 101, 114, 101, 32, 105, 115, 32, 109, 111, 114, 101, 32, 116, 104, 97, 110, 32, 109, 97, 121, 32, 98, 101]⟩,
  ⟨"redline/api.ErrVarint", 4, [105, 116, 32, 105, 115, 32, 110, 111, 32, 118, 97, 114, 105, 110, 116]⟩,
  ⟨"redline/api.ErrTag", 5, [105, 116, 32, 105, 115, 32, 110, 111, 32, 116, 97, 103]⟩,
  ⟨"redline/api.ErrGroup", 6, [116, 104, 101, 114, 101, 32, 97, 114, 101, 32, 110, 111, 32, 103, 114, 111, 117, 112, 115]⟩,
  ⟨"redline/api.ErrRune", 7, [105, 116, 32, 105, 115, 32, 110, 111, 32, 85, 84, 70, 45, 56]⟩,
  ⟨"redline/api.ErrDepth", 8, [105, 116, 32, 103, 111, 101, 115, 32, 116, 111, 111, 32, 100, 101, 101, 112]⟩,
  ⟨"redline/api.ErrForm", 9, [105, 116, 32, 105, 115, 32, 110, 111, 116, 32, 111, 102, 32, 105, 116, 115, 32, 102, 111, 114, 109]⟩,
  ⟨"redline/api.ErrName", 10, [116, 104, 101, 114, 101, 32, 105, 115, 32, 110, 111, 32, 115, 117, 99, 104, 32, 110, 97, 109, 101]⟩,
  ⟨"redline/api.ErrDup", 11, [105, 116, 32, 105, 115, 32, 116, 104, 101, 114, 101, 32, 97, 108, 114, 101, 97, 100, 121]⟩,
  ⟨"redline/api.ErrKind", 12, [105, 116, 32, 105, 115, 32, 111, 102, 32, 97, 110, 111, 116, 104, 101, 114, 32, 107, 105, 110, 100]⟩,
  ⟨"redline/api.ErrClash", 13, [105, 116, 32, 105, 115, 32, 110, 111, 116, 32, 119, 104, 97, 116, 32, 105, 116, 32, 119, 97, 115]⟩,
  ⟨"redline/api.ErrNone", 14, [116, 104, 101, 114, 101, 32, 105, 115, 32, 110, 111, 110, 101]⟩,
  ⟨"redline/api.ErrFull", 15, [116, 104, 101, 114, 101, 32, 105, 115, 32, 110, 111, 32, 109, 111, 114, 101, 32, 114, 111, 111, 109]⟩,
  ⟨"redline/api.ErrState", 16, [105, 116, 32, 99, 97, 110, 32, 110, 111, 116, 32, 98, 101, 32, 100, 111, 110, 101, 32, 105, 110, 32, 116, 104, 105, 115, 32, 115, 116, 97, 116, 101]⟩,
  ⟨"redline/api.ErrPower", 17, [116, 104, 101, 32, 112, 111, 119, 101, 114, 32, 105, 115, 32, 103, 111, 110, 101]⟩,
  ⟨"redline/api.ErrSum", 18, [116, 104, 101, 32, 115, 117, 109, 32, 105, 115, 32, 110, 111, 116, 32, 114, 105, 103, 104, 116]⟩,
  ⟨"redline/api.ErrConflict", 19, [98, 111, 116, 104, 32, 115, 105, 100, 101, 115, 32, 99, 104, 97, 110, 103, 101, 100, 32, 105, 116]⟩]
def Sent (W : World) (e : Ent) (a : Addr) : Prop :=
  W.cell? ⟨e.g, 0, none⟩ = some (.iface tE (.pointer (some a))) ∧ (∃ s : ByteArray, W.cell? a = some (.string s) ∧ s.data.toList = e.text) ∧ ∃ c t, W.heap[a.block]? = some (.cells c t (0, 0))
theorem star : "*" ++ "errors.errorString" = "*errors.errorString" := by decide
theorem rowE (u : TypeId) (h : Tryz.prog.typeName? 3 u = some "*errors.errorString") : u = tE :=
  typeName_ptr_named (nm := "errors.errorString") (by rw [star]; kernel_rfl) (by kernel_rfl) (by decide) u (by rw [star]; exact h)
theorem cellsES : Tryz.prog.cellsOf 250 = 1 := by kernel_rfl
theorem cellsStr : Tryz.prog.cellsOf 9 = 1 := by kernel_rfl
set_option maxRecDepth 100000 in
theorem sent_head {W : World} {e : Ent} {r : List (String × DataW Unit)} (h : laidMet Tryz.prog (e.laid :: r) W) (hg : Tryz.prog.globalNamed e.n = some e.g) (ht : (Tryz.prog.globals[e.g]?).map (·.type) = some 28) : ∃ a, Sent W e a := by
  obtain ⟨ps, ⟨g, t, ⟨cl⟩, f, p, q, hg1, ht1, hv, hd, _, he⟩, _, hrows⟩ := h
  cases Option.some.inj (hg.symm.trans hg1)
  cases Option.some.inj (ht.symm.trans ht1)
  have hok : ∀ u v, cl = [.iface u v] → Value.okWide Tryz.prog W .any 0 u v := fun u v hc => by
    subst hc
    exact (hrows e.g 0 (by rw [he]; simp [MemPlace.row])).2 u v (by simpa using World.var?_cell hg1 hv 0)
  obtain ⟨a, s, rfl, hca, hs, _, rfl⟩ := errorString_of_trod Tryz.underlying28 rowE Tryz.underlying231 Tryz.underlying250 rfl rfl Tryz.underlying9 cellsES cellsStr hd hok
  exact ⟨a, by simpa using World.var?_cell hg1 hv 0, ⟨s, hca, hs⟩, (hrows a.block a.off (by rw [he]; simp [MemPlace.row])).1⟩
theorem sents {W : World} : ∀ (es : List Ent), (∀ e ∈ es, Tryz.prog.globalNamed e.n = some e.g ∧ (Tryz.prog.globals[e.g]?).map (·.type) = some 28) → laidMet Tryz.prog (es.map Ent.laid) W →
    ∃ A : Nat → Addr, ∀ (i : Nat) e, es[i]? = some e → Sent W e (A i)
  | [], _, _ => ⟨fun _ => ⟨0, 0, none⟩, fun i e h => by simp at h⟩
  | e :: es, hes, h => by
    obtain ⟨a, ha⟩ := sent_head (r := es.map Ent.laid) h (hes e List.mem_cons_self).1 (hes e List.mem_cons_self).2
    obtain ⟨A, hA⟩ := sents es (fun x hx => hes x (List.mem_cons_of_mem _ hx)) h.tail
    refine ⟨fun i => match i with | 0 => a | i + 1 => A i, fun i x hx => ?_⟩
    match i, hx with
    | 0, hx => simp at hx; subst hx; exact ha
    | i + 1, hx => exact hA i x (by simpa using hx)
theorem ents_ok : ∀ e ∈ ents, Tryz.prog.globalNamed e.n = some e.g ∧ (Tryz.prog.globals[e.g]?).map (·.type) = some 28 := by
  have h : (ents.all fun e => decide (Tryz.prog.globalNamed e.n = some e.g ∧ (Tryz.prog.globals[e.g]?).map (·.type) = some 28)) = true := by kernel_rfl
  exact fun e he => of_decide_eq_true (List.all_eq_true.1 h e he)
theorem ents_apart : ((List.range 19).all fun i => (List.range 19).all fun j => i == j || (ents[i]?.map (·.text)) != (ents[j]?.map (·.text))) = true := by kernel_rfl
theorem ents_gs : ents.map (·.g) = errGs := rfl
theorem ents_len : ents.length = 19 := rfl
theorem errs_met {W : World} (h : laidMet Tryz.prog (ents.map Ent.laid) W) : ∃ A, Errs W A := by
  obtain ⟨A, hA⟩ := sents ents ents_ok h
  have hget : ∀ i, i < 19 → ∃ e, ents[i]? = some e := fun i hi => ⟨ents[i]'(by rw [ents_len]; exact hi), List.getElem?_eq_getElem _⟩
  refine ⟨A, ⟨fun i g hg => ?_, fun i hi => ?_, fun i j hi hj hne he => ?_⟩⟩
  · rw [← ents_gs, List.getElem?_map] at hg
    obtain ⟨e, he, rfl⟩ := Option.map_eq_some_iff.1 hg
    exact (hA i e he).1
  · obtain ⟨e, he⟩ := hget i hi
    exact (hA i e he).2.2
  · obtain ⟨x, hx⟩ := hget i hi
    obtain ⟨y, hy⟩ := hget j hj
    obtain ⟨_, ⟨s, hs, hsx⟩, _⟩ := hA i x hx
    obtain ⟨_, ⟨s', hs', hsy⟩, _⟩ := hA j y hy
    rw [he, hs'] at hs
    cases hs
    have h1 := List.all_eq_true.1 (List.all_eq_true.1 ents_apart i (List.mem_range.2 hi)) j (List.mem_range.2 hj)
    rw [hx, hy] at h1
    simp only [Option.map_some, Bool.or_eq_true, beq_iff_eq, hne, false_or, bne_iff_ne, ne_eq, Option.some.injEq] at h1
    exact h1 (hsx.symm.trans hsy)
end Go.Proofs.YtfcjeciepadmeaaGreatDoor
namespace Go.Proofs.YtfcjeciepadmeaaGreatDoor
open Go.RowKit Go.ChangeShapes
theorem laid_parts {l r : List (String × DataW Unit)} {x : String × DataW Unit} {W : World} (h : laidMetH Tryz.prog l W) (hx : (l.filter fun x => x.2.handleName?.isSome) = [x]) (hr : (l.filter fun x => x.2.handleName?.isNone) = r) : laidMet Tryz.prog r W ∧ handlesMet Tryz.prog [x] W := by
  unfold laidMetH at h
  rw [hx, hr] at h
  exact h
theorem etG : Tryz.prog.globalNamed "errors.errorType" = some 1 := by kernel_rfl
theorem etR : (Tryz.prog.cutTypes.find? (·.1 == "internal/reflectlite.rtype")).map (·.2) = some 191 := by kernel_rfl
theorem etOne : ((List.range 262).filter fun t => Tryz.prog.rowNamed t [101, 114, 114, 111, 114]) = [28] := by kernel_rfl
theorem etSize : Tryz.prog.types.size = 262 := by kernel_rfl
theorem errT_of {W : World} (h : handlesMet Tryz.prog [("errors.errorType", Rows.laid_errors_errorType)] W) : ErrT W := by
  obtain ⟨name, u, ty, e1, e2, e3, e4, e5⟩ := h _ (List.mem_singleton.2 rfl)
  have en : name = [101, 114, 114, 111, 114] := (Option.some.inj e1).symm
  subst en
  obtain rfl := Option.some.inj (etR.symm.trans e2)
  have hm : ty ∈ (List.range 262).filter fun t => Tryz.prog.rowNamed t [101, 114, 114, 111, 114] := List.mem_filter.2 ⟨List.mem_range.2 (by rw [← etSize]; exact e3), e4⟩
  rw [etOne] at hm
  obtain rfl := List.mem_singleton.1 hm
  have hh : typeHandle Tryz.prog 28 = .pointer (some ⟨21, 28, none⟩) := by kernel_rfl
  rw [hh] at e5
  unfold ErrT
  simpa using World.var?_cell etG e5 0
theorem lx_of {W : World} {A : Nat → Addr} (hE : Errs W A) (hsh : W.ShapedOpen Tryz.prog) : ∃ m, Lx W A m := by
  obtain ⟨m, hm⟩ := Tryz.laysM219.s1_3 W hsh
  exact ⟨m, hE.holds 0 _ rfl, hE.holds 2 _ rfl, hE.holds 8 _ rfl, hm⟩
theorem wrap_laid_shaped {H : Type} {enc : TypeId × Value → H} {a : Assume} {C : Checked} {os : Os} {f : FuncId} {fn : Func} {s : ChangeSpec} {conds : List PathCond} {apart fresh handsOn again : Bool} {X : World → Array Value → Prop}
    (hX : ∀ (w w' : World) (args : Array Value), w.heap = w'.heap → X w args → X w' args)
    (own : ownKnob C.prog.godebug = none) (started : os.Started) (noInit : C.prog.inits.idxOf? f = none) (hfn : C.prog.funcs[f]? = some fn)
    (witness : ∃ (w : World) (tape : Tape) (i : Input), w.os = os ∧ (w.forCall tape i).Shaped C.prog ∧ i.vars = [] ∧ Input.okWide C.prog (w.forCall tape i) .any w.heap.size f i ∧
      ((s.pre enc C.prog fn conds apart (w.forCall tape i).memory i.args ∧ X (w.forCall tape i).memory i.args) ∧ sizedMet enc C.prog fn (OpenSpec.ofChange s) apart (w.forCall tape i).memory i.args) ∧ a.holds C.prog (lone (Frame.enter C.prog f i.args .normal) [] (w.forCall tape i)))
    (contract : ∀ (W : World) (base : Nat) (args : Array Value) (ds gs : List (DataW H)) (before : List MemPlace),
      (∀ (j : Nat) t v, fn.params[j]? = some t → args[j]? = some v → Value.okWide C.prog W .any base t v) →
      DataW.Whole enc C.prog fn.params.toList s.vars apart W args.toList ds gs before → X W args → W.ShapedOpen C.prog →
      Calls C.prog f args W fun e W' => ∃ v, e = .returned v ∧ s.post enc C.prog fn apart fresh handsOn again W args v W') :
    ReturnsInHanded a C os f .any (fun w args => (s.pre enc C.prog fn conds apart w args ∧ X w args) ∧ sizedMet enc C.prog fn (OpenSpec.ofChange s) apart w args) (s.post enc C.prog fn apart fresh handsOn again) := by
  refine returnsInHanded_of_calls own started noInit witness ?_
  intro w tape i _ hsh _ hok hpre _
  obtain ⟨_, _, _, fn', hfn', _, _, _, _, hval⟩ := hok
  obtain rfl : fn' = fn := Option.some.inj (hfn'.symm.trans hfn)
  obtain ⟨⟨⟨ds, gs, before, hw, _⟩, hx⟩, _⟩ := hpre
  refine (contract (w.forCall tape i) w.heap.size i.args ds gs before hval (DataW.Whole.of_heap (w' := w.forCall tape i) (by rfl) hw) (hX _ _ _ (by rfl) hx) hsh).mono fun e W' ⟨v, he, hp⟩ => ?_
  subst he
  exact ChangeSpec.post_blind hp
end Go.Proofs.YtfcjeciepadmeaaGreatDoor
namespace Go.Proofs.YtfcjeciepadmeaaGreatDoor
open Go.RowKit Go.ChangeShapes
theorem texts_laid {W : World} (h : laidMetH Tryz.prog Rows.syntaxTextsRow.laid W) (hsh : W.ShapedOpen Tryz.prog) : ∃ A m, Errs W A ∧ Lx W A m ∧ ErrT W := by
 obtain ⟨h1, h2⟩ := laid_parts (r := ents.map Ent.laid) (x := ("errors.errorType", Rows.laid_errors_errorType)) h (by kernel_rfl) (by kernel_rfl)
 obtain ⟨A, hE⟩ := errs_met h1
 obtain ⟨m, hL⟩ := lx_of hE hsh
 exact ⟨A, m, hE, hL, errT_of h2⟩
end Go.Proofs.YtfcjeciepadmeaaGreatDoor
namespace Go.Proofs.YtfcjeciepadmeaaGreatDoor
open Go.ChangeShapes Go.WideShapes Go.ChangeAt Go.RowKit
section
variable {H : Type} {enc : TypeId × Value → H} {P : Program}
theorem trodAll_stay (hl : laidOutB P = true) {W W' : World} (hb : Below W.heap.size W W') {sp : Nat → Bool} : ∀ {ts : List TypeId} {vs : List Value} {ds : List (DataW H)} {ps : List MemPlace},
    (ts.all fun t => P.readableRec t && decide (t < P.types.size)) = true → DataW.TrodAll enc P W 0 (fun _ => true) true ts vs ds ps → (∀ p ∈ ps, p.block < W.heap.size) → (∀ p ∈ ps, sp p.block = true) →
    DataW.TrodAll enc P W' 0 sp true ts vs ds ps
  | [], _, _, _, _, h, _, _ => by
    obtain ⟨rfl, rfl, rfl⟩ := trodAll_nil h
    exact trodAll_mk0
  | t :: ts, _, _, _, ht, h, hlt, hsp => by
    simp only [List.all_cons, Bool.and_eq_true, decide_eq_true_eq] at ht
    obtain ⟨v, vs, d, ds, p, q, rfl, rfl, rfl, h0, hr⟩ := trodAll_cons h
    exact trodAll_cons_mk (WideElems.Trod_stays hl ht.1.1 ht.1.2 h0 (fun x hx => hb.same (hlt x (List.mem_append_left _ hx))) (fun x hx => hsp x (List.mem_append_left _ hx)))
      (trodAll_stay hl hb ht.2 hr (fun x hx => hlt x (List.mem_append_right _ hx)) (fun x hx => hsp x (List.mem_append_right _ hx)))
theorem law_post {f : Func} {s : ChangeSpec} {W W' : World} {args : Array Value} {ds : List (DataW H)} {before : List MemPlace}
    (hl : laidOutB P = true) (ht : (f.params.toList.all fun t => P.readableRec t && decide (t < P.types.size)) = true)
    (hvars : s.vars = []) (hs : s.fn H (ds ++ []) = { results := [.lit (.bool true)], args := ds }) {tb : TypeId} (hres : f.resultTypes = #[tb]) (hbool : P.underlying tb = some .bool)
    (hW : DataW.Whole enc P f.params.toList s.vars false W args.toList ds [] before)
    (hA : DataW.TrodAll enc P W 0 (fun _ => true) true f.params.toList args.toList ds before) (hb : Below W.heap.size W W') :
    s.post enc P f false true false false W args (.bool true) W' := by
  have hlt : ∀ p ∈ before, p.block < W.heap.size := fun p hp => hW.lt p hp
  have e1 : (Value.bool true).resultList f.resultTypes.size = [Value.bool true] := by rw [hres]; rfl
  refine ⟨ds, [], before, [], before, [], hW, ?_, ?_, ?_, World.keptBut_mono (fun p hp => ⟨hp, by simpa using hp⟩) (hb.frame (· ∈ before)), fun h => by cases h⟩
  · rw [hs, e1, hres]
    exact trodAll_mk1 (shut_bool hbool _)
  · rw [hs]
    exact trodAll_stay hl hb ht hA hlt (fun p hp => by simpa using hlt p hp)
  · rw [hs, hvars]
    rfl
end
end Go.Proofs.YtfcjeciepadmeaaGreatDoor
