/- Part 37 of what the last text of this claim is proved by: walks over the program, and the math behind them. Conditions: as each theorem says. -/
import Derived.Test.YtfcjeciepadmeaaGreatDoorTx36
import Derived.Test.YtfcjeciepadmeaaGreatDoorProg
import Derived.Deep.DeepCutAuto
import Derived.Deep.CutBlock
import Derived.RegionTactic
import Derived.ChangeAlike
namespace Go.Proofs.YtfcjeciepadmeaaGreatDoor
open Go.RowKit
set_option maxRecDepth 100000 in
set_option maxHeartbeats 16000000 in
theorem refSplit_any (w : World) (l : List UInt8) (hl : l.length ≤ 4000) (T : List (Tok × Nat)) (b ea : Nat) (hT : Lex l 0 T b ea) :
    Calls Tryz.prog 17 #[.string (str l)] w (RefSplitR w l T b ea) := by
  obtain ⟨i0, hi, hz0, hz1, hz2⟩ := info_parts infoRTok
  have hz : (str l).size = l.length := strSize l
  have hlen : ¬ (4000 : Int) < (l.length : Int) := by omega
  have hn := str_toList
  have hnot := run_not
  have HT := Lib.hid hT
  clear hT
  go_enter Tryz.func17, Tryz.ntmps17
  go_wp2_with fail
  have hown0 : (w.alloc (.cells #[] 97)).ownsRow w.heap.size 97 5 (.slice (some ⟨w.heap.size, 0, none⟩) 0 0) 0 [] := ⟨rfl, .inr ⟨w.heap.size, 0, #[], rfl, Nat.le_refl _, heap_alloc_new w _, by simp, by decide, rfl, rfl⟩⟩
  go_loopg [6, 7] l.length (fun g v a wx => ∃ (p : Nat) (out ts : List (Tok × Nat)), p + g = l.length ∧ out.length ≤ p ∧ a = .int .i64 (p : Int) ∧ Hid (T = out ++ ts) ∧ Hid (Lex l p ts b ea) ∧ wx.ownsRow w.heap.size 97 5 v (out.map (tokRow l)).length (out.map (tokRow l)).flatten ∧ Below w.heap.size w wx)
  case atStart => exact ⟨0, [], T, by omega, by simp, rfl, Lib.hid rfl, HT, hown0, (Below.refl _ _).alloc (Nat.le_refl _) _⟩
  case round =>
    clear hown0
    obtain ⟨p, out, ts, hpg, hout, rfl, HO, HX, hown, hbr⟩ := hrel
    have hsz := hbr.size
    go_wp2_with fail
    refine (skip_any wr l (by omega) p (by omega) ts b ea HX.out).mono ?_
    rintro e w0 ⟨hw0, nx, ok, rfl, hpn, hnx, hXn, hbad, hok⟩
    subst hw0
    have HXN := Lib.hid hXn
    clear hXn HX
    go_wp2_with fail
    refine (place_any _ l nx (by omega) hnx).mono ?_
    rintro e w0 ⟨rfl, hw0⟩
    subst hw0
    cases ok
    · obtain ⟨hlt, h9⟩ := hbad rfl
      clear hbad hok
      have hst : b = 9 ∧ ea = nx := by
        rcases HXN.out.step with ⟨h, _, _⟩ | ⟨_, h, _, _, h2⟩ | ⟨_, h, _, _⟩ | ⟨_, h, _, _⟩
        · omega
        · exact ⟨by rw [← h, h9], h2⟩
        · rw [h9] at h; cases h
        · rw [h9] at h; cases h
      obtain ⟨rfl, rfl⟩ := hst
      clear h9
      go_wp2_with fail
      refine bodyPost_ret (results_tmp4 rfl _ _ _) rfl ⟨hbr, .inr ⟨by decide, rfl⟩⟩
    · have hok' := Lib.hid (hok rfl)
      clear hbad hok
      by_cases hend : nx = l.length
      · subst hend
        have hst : b = 0 ∧ T = out := by
          rcases HXN.out.step with ⟨_, h1, h2⟩ | ⟨h, _⟩ | ⟨h, _⟩ | ⟨h, _⟩
          · exact ⟨h2, by rw [HO.out, h1, List.append_nil]⟩
          · omega
          · omega
          · omega
        obtain ⟨rfl, hTo⟩ := hst
        go_wp2_with fail
        refine bodyPost_ret (results_tmp4 rfl _ _ _) rfl ⟨hbr, .inl ⟨rfl, _, rfl, ?_⟩⟩
        rw [hTo]
        exact hown
      · have hlt : nx < l.length := by omega
        have hge : ¬ (l.length : Int) ≤ (nx : Int) := by omega
        have hng : Hid (NoGap (l.drop nx)) := Lib.hid (hok'.out.resolve_left hend).2
        clear hok' hend
        have hgeN : ¬ l.length ≤ nx := by omega
        have hix := str_index l nx hlt
        obtain ⟨x, hx⟩ : ∃ x, l[nx] = x := ⟨_, rfl⟩
        rw [hx] at hix
        obtain ⟨r, hr⟩ : ∃ r, l.drop nx = x :: r := ⟨l.drop (nx + 1), by rw [List.drop_eq_getElem_cons hlt, hx]⟩
        have HR := Lib.hid hr
        have hng' := hng.out
        rw [hr] at hng'
        have HNG := Lib.hid hng'
        clear hx hng' hng
        obtain ⟨F, hF⟩ : ∃ F, F = lfirst (x :: r) := ⟨_, rfl⟩
        have HF := Lib.hid hF
        have HST := Lib.hid HXN.out.step
        have hsize := fun h => lfirst_size (l := x :: r) (by simp) (by rw [← hF]; exact h)
        rw [hr, ← hF] at HST
        rw [← hF] at hsize
        have HSZ := Lib.hid hsize
        have hrl : (x :: r).length = l.length - nx := by rw [← hr, List.length_drop]
        clear hsize hF hr HXN
        go_upto_block 2 with fail
        obtain ⟨wt, hwt⟩ : ∃ wt, wt = w0.alloc (.cells (tokCells ⟨0, [], 0⟩ (placeAt l nx).1 (placeAt l nx).2).toArray 97) := ⟨_, rfl⟩
        have hkt : Blk wt w0.heap.size 97 (tokCells ⟨0, [], 0⟩ (placeAt l nx).1 (placeAt l nx).2) := hwt ▸ Blk.new w0 _ _
        have hbt : Below w0.heap.size w0 wt := hwt ▸ (Below.refl _ _).alloc (Nat.le_refl _) _
        show Code.wp Tryz.prog _ _ _ (w0.alloc (.cells (tokCells ⟨0, [], 0⟩ (placeAt l nx).1 (placeAt l nx).2).toArray 97))
        rw [← hwt]
        clear hwt
        go_cut [13, 14, 15] (fun s13 s14 _ wc => Below w0.heap.size w0 wc ∧ ((F.2.2 = 0 ∧ s13 = .int .i64 (((nx + F.2.1 : Nat)) : Int) ∧ s14 = .int .i64 0 ∧ Blk wc w0.heap.size 97 (tokCells F.1 (placeAt l nx).1 (placeAt l nx).2)) ∨ (F.2.2 ≠ 0 ∧ s14 = .int .i64 (F.2.2 : Int) ∧ ∃ q : Int, s13 = .int .i64 q)))
        case rest =>
          obtain ⟨hbc, hway⟩ := hcut
          have hownc := rowk_below hown hbc
          have hB := hbr.trans (hbc.mono hsz)
          have hzc := hB.size
          have hgc : w0.heap.size ≤ wc.heap.size := hbc.size
          clear hown hkt hbt hix
          rcases hway with ⟨h0, rfl, rfl, hkc⟩ | ⟨h0, rfl, q, rfl⟩
          · have hk0 := noGap_k HNG.out (by rw [← HF.out]; exact h0)
            rw [← HF.out] at hk0
            have hs0 := (HSZ.out h0).1
            have hs1 := (HSZ.out h0).2.1
            rw [hrl] at hs1
            obtain ⟨ts', hts, hX'⟩ : ∃ ts', ts = (F.1, nx) :: ts' ∧ Lex l (nx + F.2.1) ts' b ea := by
              rcases HST.out with ⟨h, _⟩ | ⟨_, h, h2, _⟩ | ⟨_, _, h, _⟩ | ⟨_, _, _, h⟩
              · omega
              · exact absurd (h.symm.trans h0) h2
              · exact absurd h hk0
              · exact h
            have HX' := Lib.hid hX'
            have hO := Lib.hid (show T = (out ++ [(F.1, nx)]) ++ ts' by rw [HO.out, hts]; simp)
            clear hX' hts h0 hk0 HSZ HST HF HO
            obtain ⟨⟨tk, tt, tn⟩, s, b'⟩ := F
            simp only at hkc HX' hO hs0 hs1
            obtain ⟨c0, c1, c2, c3, c4⟩ := hkc.cells5
            go_wp2_with (at_builtin; go_must (refine wpList_append_own_at _ rfl (.tmp 164) (.tmp 166) 57 rfl w.heap.size 97 i0 (.agg #[.int .i64 0, .string .empty, .int .i64 0, .int .i64 0, .int .i64 0]) 5 48 Tryz.underlying57 hi hz0 hz1 hz2 rfl (by decide) _ _ _ rfl (World.ownsRow.alloc hownc _) ⟨wc.heap.size, 0, none⟩ 1 1 (tokCells ⟨tk, tt, tn⟩ (placeAt l nx).1 (placeAt l nx).2) rfl rfl (newCells _ _ (tokCells ⟨tk, tt, tn⟩ (placeAt l nx).1 (placeAt l nx).2) _ rfl) (tok_one _ _ _) (by rw [List.length_map]; unfold maxLen; omega) (by rw [List.length_map]; omega) (by simp; omega) ?_); intro v3 w3 hown3 hg3 hn3 ha3)
            have hb3 := (hB.alloc hzc _).grown hg3 (by simp; omega) (fun g h => (hownc.lt g h).1)
            have hown4 : w3.ownsRow w.heap.size 97 5 v3 ((out ++ [((⟨tk, tt, tn⟩ : Tok), nx)]).map (tokRow l)).length ((out ++ [((⟨tk, tt, tn⟩ : Tok), nx)]).map (tokRow l)).flatten := by
              rw [List.map_append, List.length_append, List.flatten_append, show (List.map (tokRow l) [((⟨tk, tt, tn⟩ : Tok), nx)]).flatten = tokCells ⟨tk, tt, tn⟩ (placeAt l nx).1 (placeAt l nx).2 from by simp [tokRow]]
              exact hown3
            clear hown3 hg3 hn3 ha3
            go_roundg (l.length - (nx + s))
            case measure => omega
            case rel => exact ⟨nx + s, out ++ [((⟨tk, tt, tn⟩ : Tok), nx)], ts', by omega, by simp; omega, by go_num, hO, HX', hown4, hb3⟩
          · obtain ⟨⟨tk, tt, tn⟩, s, b'⟩ := F
            have hst : b = b' ∧ ea = nx := by
              rcases HST.out with ⟨h, _⟩ | ⟨_, h, _, _, h2⟩ | ⟨_, h, _, _⟩ | ⟨_, h, _, _⟩
              · omega
              · exact ⟨h.symm, h2⟩
              · exact absurd h h0
              · exact absurd h h0
            simp only at h0
            obtain ⟨rfl, rfl⟩ := hst
            have hne : ¬ ((b : Nat) : Int) = 0 := by omega
            clear HST HSZ HF HO HR
            go_wp2_with fail
            refine bodyPost_ret (results_tmp4 rfl _ _ _) rfl ⟨hB, .inr ⟨h0, rfl⟩⟩
        case first =>
          have HLX := ref_letter_any wt x
          have HFX := ref_figure_any wt x
          cases hlx : lxLet x
          · cases hfx : lxFig x
            · rw [hlx] at HLX
              have HFX' := Lib.hid (fun (u : World) => by have h := ref_figure_any u x; rw [hfx] at h; exact h)
              have HLX' := Lib.hid HLX
              have hlx' := Lib.hid hlx
              have hfx' := Lib.hid hfx
              have HXB := Lib.hid (show lxQuote x = (decide ((x.toNat : Int) = 34) || decide ((x.toNat : Int) = 39)) from by unfold lxQuote; rw [byte_eq, byte_eq]; rfl)
              clear HLX HFX hlx hfx
              go_wp2_with fail
              refine HLX'.out.mono ?_
              rintro e wt ⟨rfl, rfl⟩
              go_wp2_with fail
              refine (HFX'.out _).mono ?_
              rintro e wt ⟨rfl, rfl⟩
              obtain ⟨B, hB⟩ : ∃ B : Int, B = (x.toNat : Int) := ⟨_, rfl⟩
              rw [← hB]
              rw [← hB] at HXB
              have HBB := Lib.hid hB
              clear hB
              by_cases hq : B = 34 ∨ B = 39
              · have hqx : Hid (lxQuote x = true) := Lib.hid (by rw [HXB.out]; rcases hq with h | h <;> simp [h])
                have hqB : (B == 34 || B == 39) = true := by rcases hq with h | h <;> simp [h]
                have HEND := Lib.hid (fun i h1 h2 => lfirst_quote HNG.out hlx'.out hfx'.out hqx.out i h1 h2)
                have HOPEN := Lib.hid (fun h => lfirst_open HNG.out hlx'.out hfx'.out hqx.out h)
                rcases hq with hq | hq
                · as_aux_lemma =>
                  subst hq
                  clear hqB
                  go_upto_block 7 with fail
                  go_cut [13, 14] (fun s13 s14 wc => ∃ (q j : Nat) (E : Int), Hid (q = nx + 1 + j) ∧ s13 = .int .i64 (q : Int) ∧ s14 = .int .i64 E ∧ Hid ((E = 0 ∧ ¬ Bad (r.take j)) ∨ (E = 9 ∧ Bad (r.take j))) ∧ Hid (∀ k : Nat, k < j → r[k]? ≠ some x) ∧ (q = l.length ∨ (q < l.length ∧ Hid (r[j]? = some x))) ∧ wc = wt)
                  case first =>
                    go_wp2_with fail
                    go_loopg [13, 14] (l.length - (nx + 1)) (fun g1 a d wx => ∃ (q j : Nat) (E : Int), q + g1 = l.length ∧ Hid (q = nx + 1 + j) ∧ a = .int .i64 (q : Int) ∧ d = .int .i64 E ∧ wx = wt ∧ Hid ((E = 0 ∧ ¬ Bad (r.take j)) ∨ (E = 9 ∧ Bad (r.take j))) ∧ Hid (∀ k : Nat, k < j → r[k]? ≠ some x))
                    case atStart => exact ⟨nx + 1, 0, 0, by omega, Lib.hid rfl, by go_num, rfl, rfl, Lib.hid (.inl ⟨rfl, by simp [Bad]⟩), Lib.hid (fun _ h => absurd h (Nat.not_lt_zero _))⟩
                    case round =>
                      obtain ⟨q, j, E, hqg, HQ, rfl, rfl, rfl, HE, HJ⟩ := hrel
                      by_cases hql : q < l.length
                      · have hqi : (q : Int) < (l.length : Int) := by omega
                        have hqx := str_index l q hql
                        obtain ⟨c, hc⟩ : ∃ c, l[q] = c := ⟨_, rfl⟩
                        rw [hc] at hqx
                        have hrj : r[j]? = some c := by
                          have h := congrArg (fun m => m[j + 1]?) HR.out
                          simp only [List.getElem?_drop, List.getElem?_cons_succ] at h
                          rw [← h, show nx + (j + 1) = q by have := HQ.out; omega, List.getElem?_eq_getElem hql, hc]
                        have HC := Lib.hid hrj
                        have HBS := Lib.hid (bad_snoc hrj)
                        obtain ⟨C, hC⟩ : ∃ C : Int, C = (c.toNat : Int) := ⟨_, rfl⟩
                        rw [← hC] at hqx HBS
                        have HCC := Lib.hid hC
                        clear hc hrj hC
                        by_cases hCB : C = 34
                        · have hcx : Hid (r[j]? = some x) := Lib.hid (by rw [HC.out]; congr 1; exact UInt8.toNat_inj.1 (by have h1 := HCC.out; have h2 := HBB.out; omega))
                          subst hCB
                          go_wp2_with fail
                          go_meet
                          exact ⟨q, j, E, HQ, rfl, rfl, HE, HJ, .inr ⟨hql, hcx⟩, rfl⟩
                        · have hCBn : (C != 34) = true := bne_iff_ne.2 hCB
                          have HJ' := Lib.hid (show ∀ k : Nat, k < j + 1 → r[k]? ≠ some x from fun k hk he => by
                            by_cases e : k = j
                            · subst e
                              rw [HC.out] at he
                              cases he
                              exact hCB (by rw [HCC.out, ← HBB.out])
                            · exact HJ.out k (by omega) he)
                          by_cases hb : C = 92 ∨ C = 10
                          · have HB9 := Lib.hid (HBS.out.2 (.inr hb))
                            rcases hb with hb | hb
                            · subst hb
                              go_wp2_with fail
                              go_roundg (l.length - (q + 1))
                              case measure => omega
                              case rel => exact ⟨q + 1, j + 1, 9, by omega, Lib.hid (by rw [HQ.out]; omega), by go_num, rfl, rfl, Lib.hid (.inr ⟨rfl, HB9.out⟩), HJ'⟩
                            · subst hb
                              go_wp2_with fail
                              go_roundg (l.length - (q + 1))
                              case measure => omega
                              case rel => exact ⟨q + 1, j + 1, 9, by omega, Lib.hid (by rw [HQ.out]; omega), by go_num, rfl, rfl, Lib.hid (.inr ⟨rfl, HB9.out⟩), HJ'⟩
                          · have HE' := Lib.hid (show (E = 0 ∧ ¬ Bad (r.take (j + 1))) ∨ (E = 9 ∧ Bad (r.take (j + 1))) from by
                              rcases HE.out with ⟨h1, h2⟩ | ⟨h1, h2⟩
                              · exact .inl ⟨h1, fun h => by
                                  rcases HBS.out.1 h with h3 | h3
                                  · exact h2 h3
                                  · exact hb h3⟩
                              · exact .inr ⟨h1, HBS.out.2 (.inl h2)⟩)
                            have n1 : (C == 92) = false := beq_eq_false_iff_ne.2 fun h => hb (.inl h)
                            have n2 : (C == 10) = false := beq_eq_false_iff_ne.2 fun h => hb (.inr h)
                            clear hb
                            go_wp2_with fail
                            go_roundg (l.length - (q + 1))
                            case measure => omega
                            case rel => exact ⟨q + 1, j + 1, E, by omega, Lib.hid (by rw [HQ.out]; omega), by go_num, rfl, rfl, HE', HJ'⟩
                      · have hqi : ¬ (q : Int) < (l.length : Int) := by omega
                        have hqe : q = l.length := by omega
                        have HQE := Lib.hid hqe
                        clear hqe
                        go_wp2_with fail
                        go_meet
                        exact ⟨q, j, E, HQ, rfl, rfl, HE, HJ, .inl HQE.out, rfl⟩
                  case rest =>
                    obtain ⟨q, j, E, HQ, rfl, rfl, HE, HJ, hway, rfl⟩ := hcut
                    rcases hway with hqe | ⟨hql, HX2⟩
                    · have hF9 : F.2.2 = 9 := by
                        rw [HF.out]
                        refine HOPEN.out (index_byte_no fun k hk => ?_)
                        have h1 := (List.getElem?_eq_some_iff.1 hk).1
                        have h2 := HQ.out
                        rw [List.length_cons] at hrl
                        exact HJ.out k (by omega) hk
                      have HF9 := Lib.hid hF9
                      have hbtc := hbt
                      clear hF9
                      subst hqe
                      go_wp2_with fail
                      go_meet
                      exact ⟨hbtc, .inr ⟨by rw [HF9.out]; decide, by rw [HF9.out]; rfl, _, rfl⟩⟩
                    · have hqn : ((q : Int) == (l.length : Int)) = false := beq_eq_false_iff_ne.2 (by omega)
                      have hjr : j < r.length := (List.getElem?_eq_some_iff.1 HX2.out).1
                      have HFQ := Lib.hid (HEND.out j (index_byte_at HJ.out HX2.out) hjr)
                      have hmid : ∀ u, (Instr.slice 9 (.string (str l)) (some (.int .i64 ((nx : Int) + 1))) (some (.int .i64 (q : Int))) none).run Tryz.prog u = .ok (.string (str (r.take j))) u := fun u => by
                        have hq2 := HQ.out
                        have h := str_mid l (nx + 1) q (by omega) (by omega) u
                        rw [show q - (nx + 1) = j by omega, ← List.drop_drop, HR.out, show ((nx + 1 : Nat) : Int) = (nx : Int) + 1 by omega] at h
                        exact h
                      have hqb0 : (nx : Int) + 1 ≤ (q : Int) := by have := HQ.out; omega
                      have f0 := hkt.frozen 0
                      have f1 := hkt.frozen 1
                      obtain ⟨c0, c1, c2, c3, c4⟩ := hkt.cells5
                      go_wp2_with fail
                      go_region
                      obtain ⟨w5, hw5⟩ : ∃ w5, w5 = ((wc.setCell ⟨w0.heap.size, 0, none⟩ (.int .i64 3)).setCell ⟨w0.heap.size, 1, none⟩ (.string (str (r.take j)))).drew := ⟨_, rfl⟩
                      have hk5 : Blk w5 w0.heap.size 97 (tokCells ⟨3, r.take j, 0⟩ (placeAt l nx).1 (placeAt l nx).2) := hw5 ▸ ((hkt.set_ 0 (.int .i64 3)).set_ 1 (.string (str (r.take j)))).drew
                      have hb5 : Below w0.heap.size w0 w5 := hw5 ▸ below_drewN ((hbt.setCell (p := ⟨w0.heap.size, 0, none⟩) (Nat.le_refl _) (.int .i64 3)).setCell (p := ⟨w0.heap.size, 1, none⟩) (Nat.le_refl _) (.string (str (r.take j)))) 1
                      rw [← hw5]
                      clear hw5 f0 f1 c0 c1 c2 c3 c4 hmid
                      go_wp2_with fail
                      go_meet
                      refine ⟨hb5, ?_⟩
                      rcases HE.out with ⟨hE, hB2⟩ | ⟨hE, hB2⟩
                      · have hFv : F = (⟨3, r.take j, 0⟩, j + 2, 0) := by rw [HF.out, HFQ.out, if_neg (show ¬ ((92 : UInt8) ∈ r.take j ∨ (10 : UInt8) ∈ r.take j) from hB2)]
                        exact .inl ⟨by rw [hFv], by rw [hFv]; show Value.int .i64 ((q : Int) + 1) = .int .i64 (((nx + (j + 2) : Nat)) : Int); rw [HQ.out]; congr 1; omega, by rw [hE], by rw [hFv]; exact hk5⟩
                      · have hFv : F.2.2 = 9 := by rw [HF.out, HFQ.out, if_pos (show (92 : UInt8) ∈ r.take j ∨ (10 : UInt8) ∈ r.take j from hB2)]
                        exact .inr ⟨by rw [hFv]; decide, by rw [hE, hFv]; rfl, (q : Int) + 1, rfl⟩
                · as_aux_lemma =>
                  subst hq
                  clear hqB
                  go_upto_block 7 with fail
                  go_cut [13, 14] (fun s13 s14 wc => ∃ (q j : Nat) (E : Int), Hid (q = nx + 1 + j) ∧ s13 = .int .i64 (q : Int) ∧ s14 = .int .i64 E ∧ Hid ((E = 0 ∧ ¬ Bad (r.take j)) ∨ (E = 9 ∧ Bad (r.take j))) ∧ Hid (∀ k : Nat, k < j → r[k]? ≠ some x) ∧ (q = l.length ∨ (q < l.length ∧ Hid (r[j]? = some x))) ∧ wc = wt)
                  case first =>
                    go_wp2_with fail
                    go_loopg [13, 14] (l.length - (nx + 1)) (fun g1 a d wx => ∃ (q j : Nat) (E : Int), q + g1 = l.length ∧ Hid (q = nx + 1 + j) ∧ a = .int .i64 (q : Int) ∧ d = .int .i64 E ∧ wx = wt ∧ Hid ((E = 0 ∧ ¬ Bad (r.take j)) ∨ (E = 9 ∧ Bad (r.take j))) ∧ Hid (∀ k : Nat, k < j → r[k]? ≠ some x))
                    case atStart => exact ⟨nx + 1, 0, 0, by omega, Lib.hid rfl, by go_num, rfl, rfl, Lib.hid (.inl ⟨rfl, by simp [Bad]⟩), Lib.hid (fun _ h => absurd h (Nat.not_lt_zero _))⟩
                    case round =>
                      obtain ⟨q, j, E, hqg, HQ, rfl, rfl, rfl, HE, HJ⟩ := hrel
                      by_cases hql : q < l.length
                      · have hqi : (q : Int) < (l.length : Int) := by omega
                        have hqx := str_index l q hql
                        obtain ⟨c, hc⟩ : ∃ c, l[q] = c := ⟨_, rfl⟩
                        rw [hc] at hqx
                        have hrj : r[j]? = some c := by
                          have h := congrArg (fun m => m[j + 1]?) HR.out
                          simp only [List.getElem?_drop, List.getElem?_cons_succ] at h
                          rw [← h, show nx + (j + 1) = q by have := HQ.out; omega, List.getElem?_eq_getElem hql, hc]
                        have HC := Lib.hid hrj
                        have HBS := Lib.hid (bad_snoc hrj)
                        obtain ⟨C, hC⟩ : ∃ C : Int, C = (c.toNat : Int) := ⟨_, rfl⟩
                        rw [← hC] at hqx HBS
                        have HCC := Lib.hid hC
                        clear hc hrj hC
                        by_cases hCB : C = 39
                        · have hcx : Hid (r[j]? = some x) := Lib.hid (by rw [HC.out]; congr 1; exact UInt8.toNat_inj.1 (by have h1 := HCC.out; have h2 := HBB.out; omega))
                          subst hCB
                          go_wp2_with fail
                          go_meet
                          exact ⟨q, j, E, HQ, rfl, rfl, HE, HJ, .inr ⟨hql, hcx⟩, rfl⟩
                        · have hCBn : (C != 39) = true := bne_iff_ne.2 hCB
                          have HJ' := Lib.hid (show ∀ k : Nat, k < j + 1 → r[k]? ≠ some x from fun k hk he => by
                            by_cases e : k = j
                            · subst e
                              rw [HC.out] at he
                              cases he
                              exact hCB (by rw [HCC.out, ← HBB.out])
                            · exact HJ.out k (by omega) he)
                          by_cases hb : C = 92 ∨ C = 10
                          · have HB9 := Lib.hid (HBS.out.2 (.inr hb))
                            rcases hb with hb | hb
                            · subst hb
                              go_wp2_with fail
                              go_roundg (l.length - (q + 1))
                              case measure => omega
                              case rel => exact ⟨q + 1, j + 1, 9, by omega, Lib.hid (by rw [HQ.out]; omega), by go_num, rfl, rfl, Lib.hid (.inr ⟨rfl, HB9.out⟩), HJ'⟩
                            · subst hb
                              go_wp2_with fail
                              go_roundg (l.length - (q + 1))
                              case measure => omega
                              case rel => exact ⟨q + 1, j + 1, 9, by omega, Lib.hid (by rw [HQ.out]; omega), by go_num, rfl, rfl, Lib.hid (.inr ⟨rfl, HB9.out⟩), HJ'⟩
                          · have HE' := Lib.hid (show (E = 0 ∧ ¬ Bad (r.take (j + 1))) ∨ (E = 9 ∧ Bad (r.take (j + 1))) from by
                              rcases HE.out with ⟨h1, h2⟩ | ⟨h1, h2⟩
                              · exact .inl ⟨h1, fun h => by
                                  rcases HBS.out.1 h with h3 | h3
                                  · exact h2 h3
                                  · exact hb h3⟩
                              · exact .inr ⟨h1, HBS.out.2 (.inl h2)⟩)
                            have n1 : (C == 92) = false := beq_eq_false_iff_ne.2 fun h => hb (.inl h)
                            have n2 : (C == 10) = false := beq_eq_false_iff_ne.2 fun h => hb (.inr h)
                            clear hb
                            go_wp2_with fail
                            go_roundg (l.length - (q + 1))
                            case measure => omega
                            case rel => exact ⟨q + 1, j + 1, E, by omega, Lib.hid (by rw [HQ.out]; omega), by go_num, rfl, rfl, HE', HJ'⟩
                      · have hqi : ¬ (q : Int) < (l.length : Int) := by omega
                        have hqe : q = l.length := by omega
                        have HQE := Lib.hid hqe
                        clear hqe
                        go_wp2_with fail
                        go_meet
                        exact ⟨q, j, E, HQ, rfl, rfl, HE, HJ, .inl HQE.out, rfl⟩
                  case rest =>
                    obtain ⟨q, j, E, HQ, rfl, rfl, HE, HJ, hway, rfl⟩ := hcut
                    rcases hway with hqe | ⟨hql, HX2⟩
                    · have hF9 : F.2.2 = 9 := by
                        rw [HF.out]
                        refine HOPEN.out (index_byte_no fun k hk => ?_)
                        have h1 := (List.getElem?_eq_some_iff.1 hk).1
                        have h2 := HQ.out
                        rw [List.length_cons] at hrl
                        exact HJ.out k (by omega) hk
                      have HF9 := Lib.hid hF9
                      have hbtc := hbt
                      clear hF9
                      subst hqe
                      go_wp2_with fail
                      go_meet
                      exact ⟨hbtc, .inr ⟨by rw [HF9.out]; decide, by rw [HF9.out]; rfl, _, rfl⟩⟩
                    · have hqn : ((q : Int) == (l.length : Int)) = false := beq_eq_false_iff_ne.2 (by omega)
                      have hjr : j < r.length := (List.getElem?_eq_some_iff.1 HX2.out).1
                      have HFQ := Lib.hid (HEND.out j (index_byte_at HJ.out HX2.out) hjr)
                      have hmid : ∀ u, (Instr.slice 9 (.string (str l)) (some (.int .i64 ((nx : Int) + 1))) (some (.int .i64 (q : Int))) none).run Tryz.prog u = .ok (.string (str (r.take j))) u := fun u => by
                        have hq2 := HQ.out
                        have h := str_mid l (nx + 1) q (by omega) (by omega) u
                        rw [show q - (nx + 1) = j by omega, ← List.drop_drop, HR.out, show ((nx + 1 : Nat) : Int) = (nx : Int) + 1 by omega] at h
                        exact h
                      have hqb0 : (nx : Int) + 1 ≤ (q : Int) := by have := HQ.out; omega
                      have f0 := hkt.frozen 0
                      have f1 := hkt.frozen 1
                      obtain ⟨c0, c1, c2, c3, c4⟩ := hkt.cells5
                      go_wp2_with fail
                      go_region
                      obtain ⟨w5, hw5⟩ : ∃ w5, w5 = ((wc.setCell ⟨w0.heap.size, 0, none⟩ (.int .i64 3)).setCell ⟨w0.heap.size, 1, none⟩ (.string (str (r.take j)))).drew := ⟨_, rfl⟩
                      have hk5 : Blk w5 w0.heap.size 97 (tokCells ⟨3, r.take j, 0⟩ (placeAt l nx).1 (placeAt l nx).2) := hw5 ▸ ((hkt.set_ 0 (.int .i64 3)).set_ 1 (.string (str (r.take j)))).drew
                      have hb5 : Below w0.heap.size w0 w5 := hw5 ▸ below_drewN ((hbt.setCell (p := ⟨w0.heap.size, 0, none⟩) (Nat.le_refl _) (.int .i64 3)).setCell (p := ⟨w0.heap.size, 1, none⟩) (Nat.le_refl _) (.string (str (r.take j)))) 1
                      rw [← hw5]
                      clear hw5 f0 f1 c0 c1 c2 c3 c4 hmid
                      go_wp2_with fail
                      go_meet
                      refine ⟨hb5, ?_⟩
                      rcases HE.out with ⟨hE, hB2⟩ | ⟨hE, hB2⟩
                      · have hFv : F = (⟨3, r.take j, 0⟩, j + 2, 0) := by rw [HF.out, HFQ.out, if_neg (show ¬ ((92 : UInt8) ∈ r.take j ∨ (10 : UInt8) ∈ r.take j) from hB2)]
                        exact .inl ⟨by rw [hFv], by rw [hFv]; show Value.int .i64 ((q : Int) + 1) = .int .i64 (((nx + (j + 2) : Nat)) : Int); rw [HQ.out]; congr 1; omega, by rw [hE], by rw [hFv]; exact hk5⟩
                      · have hFv : F.2.2 = 9 := by rw [HF.out, HFQ.out, if_pos (show (92 : UInt8) ∈ r.take j ∨ (10 : UInt8) ∈ r.take j from hB2)]
                        exact .inr ⟨by rw [hFv]; decide, by rw [hE, hFv]; rfl, (q : Int) + 1, rfl⟩
              · skip
                have hqx : Hid (lxQuote x = false) := Lib.hid (by rw [HXB.out, decide_eq_false (fun h => hq (.inl h)), decide_eq_false (fun h => hq (.inr h))]; rfl)
                have q1 : (B == 34) = false := beq_eq_false_iff_ne.2 fun h => hq (.inl h)
                have q2 : (B == 39) = false := beq_eq_false_iff_ne.2 fun h => hq (.inr h)
                clear hq
                go_upto_block 3 with fail
                obtain ⟨w4, hw4⟩ : ∃ w4, w4 = wt.alloc (.cells (signs.map bv).toArray 5) := ⟨_, rfl⟩
                have hkg : Blk w4 wt.heap.size 5 (signs.map bv) := hw4 ▸ Blk.new wt _ _
                have hkt4 : Blk w4 w0.heap.size 97 (tokCells ⟨0, [], 0⟩ (placeAt l nx).1 (placeAt l nx).2) := hw4 ▸ hkt.alloc _
                have hbt4 : Below w0.heap.size w0 w4 := hw4 ▸ hbt.alloc hbt.size _
                show Code.wp Tryz.prog _ _ _ (wt.alloc (.cells (signs.map bv).toArray 5))
                rw [← hw4]
                clear hw4
                go_cut [14] (fun s14 wc => ∃ E : Int, s14 = .int .i64 E ∧ Hid ((E = 0 ∧ lxSign x = true) ∨ (E = 9 ∧ lxSign x = false)) ∧ wc = w4)
                case first =>
                  go_wp2_with fail
                  go_loopg [53, 14] 13 (fun g1 a d wx => ∃ (j : Nat) (E : Int), j + g1 = 13 ∧ a = .int .i64 (j : Int) ∧ d = .int .i64 E ∧ wx = w4 ∧ Hid ((E = 0 ∧ x ∈ signs.take j) ∨ (E = 9 ∧ ¬ x ∈ signs.take j)))
                  case atStart => exact ⟨0, 9, by omega, rfl, rfl, rfl, Lib.hid (.inr ⟨rfl, by simp⟩)⟩
                  case round =>
                    obtain ⟨j, E, hjg, rfl, rfl, rfl, HE⟩ := hrel
                    by_cases hj : j < 13
                    · have hji : (j : Int) < 13 := by omega
                      have hj0 : (0 : Int) ≤ (j : Int) := by omega
                      obtain ⟨c, hc⟩ : ∃ c, signs[j]? = some c := ⟨_, List.getElem?_eq_getElem (by show j < 13; exact hj)⟩
                      have hcell : wr.cell? ⟨wt.heap.size, j, none⟩ = some (.int .u8 (c.toNat : Int)) := by
                        rw [hkg.cell, List.getElem?_map, hc]
                        rfl
                      have hmem := Lib.hid (show x ∈ signs.take (j + 1) ↔ x ∈ signs.take j ∨ B = (c.toNat : Int) from by
                        rw [List.take_add_one, hc]
                        simp only [Option.toList_some, List.mem_append, List.mem_singleton]
                        rw [HBB.out]
                        constructor
                        · rintro (h | h)
                          · exact .inl h
                          · exact .inr (by rw [h])
                        · rintro (h | h)
                          · exact .inl h
                          · exact .inr (UInt8.toNat_inj.1 (by omega)))
                      clear hc
                      generalize (c.toNat : Int) = C at *
                      by_cases hBC : B = C
                      · have HM := Lib.hid (hmem.out.2 (.inr hBC))
                        subst hBC
                        go_wp2_with fail
                        go_roundg (13 - (j + 1))
                        case measure => omega
                        case rel => exact ⟨j + 1, 0, by omega, by go_num, rfl, rfl, Lib.hid (.inl ⟨rfl, HM.out⟩)⟩
                      · have HE' := Lib.hid (show (E = 0 ∧ x ∈ signs.take (j + 1)) ∨ (E = 9 ∧ ¬ x ∈ signs.take (j + 1)) from by
                          rcases HE.out with ⟨h1, h2⟩ | ⟨h1, h2⟩
                          · exact .inl ⟨h1, hmem.out.2 (.inl h2)⟩
                          · exact .inr ⟨h1, fun h => by
                              rcases hmem.out.1 h with h3 | h3
                              · exact h2 h3
                              · exact hBC h3⟩)
                        have hBC' : (B == C) = false := beq_eq_false_iff_ne.2 hBC
                        go_wp2_with fail
                        go_roundg (13 - (j + 1))
                        case measure => omega
                        case rel => exact ⟨j + 1, E, by omega, by go_num, rfl, rfl, HE'⟩
                    · obtain rfl : j = 13 := by omega
                      go_wp2_with fail
                      go_meet
                      refine ⟨E, rfl, Lib.hid ?_, rfl⟩
                      have hs : x ∈ signs.take 13 ↔ lxSign x = true := by
                        rw [show signs.take 13 = signs from rfl]
                        unfold lxSign
                        exact List.contains_iff_mem.symm
                      rcases HE.out with ⟨h1, h2⟩ | ⟨h1, h2⟩
                      · exact .inl ⟨h1, hs.1 h2⟩
                      · exact .inr ⟨h1, by simpa using fun h => h2 (hs.2 h)⟩
                case rest =>
                  obtain ⟨E, rfl, HE, rfl⟩ := hcut
                  have hmid : ∀ u, (Instr.slice 9 (.string (str l)) (some (.int .i64 (nx : Int))) (some (.int .i64 ((nx : Int) + 1))) none).run Tryz.prog u = .ok (.string (str [x])) u := fun u => by
                    have h := str_mid l nx (nx + 1) (by omega) (by omega) u
                    rw [show nx + 1 - nx = 1 by omega, HR.out, show ((nx + 1 : Nat) : Int) = (nx : Int) + 1 by omega] at h
                    exact h
                  have f0 := hkt4.frozen 0
                  have f1 := hkt4.frozen 1
                  obtain ⟨c0, c1, c2, c3, c4⟩ := hkt4.cells5
                  go_wp2_with fail
                  go_region
                  obtain ⟨w5, hw5⟩ : ∃ w5, w5 = ((wc.setCell ⟨w0.heap.size, 0, none⟩ (.int .i64 4)).setCell ⟨w0.heap.size, 1, none⟩ (.string (str [x]))).drew := ⟨_, rfl⟩
                  have hk5 : Blk w5 w0.heap.size 97 (tokCells ⟨4, [x], 0⟩ (placeAt l nx).1 (placeAt l nx).2) := hw5 ▸ ((hkt4.set_ 0 (.int .i64 4)).set_ 1 (.string (str [x]))).drew
                  have hb5 : Below w0.heap.size w0 w5 := hw5 ▸ below_drewN ((hbt4.setCell (p := ⟨w0.heap.size, 0, none⟩) (Nat.le_refl _) (.int .i64 4)).setCell (p := ⟨w0.heap.size, 1, none⟩) (Nat.le_refl _) (.string (str [x]))) 1
                  rw [← hw5]
                  clear hw5 f0 f1 c0 c1 c2 c3 c4 hmid
                  go_wp2_with fail
                  go_meet
                  refine ⟨hb5, ?_⟩
                  rcases HE.out with ⟨hE, hS⟩ | ⟨hE, hS⟩
                  · have hFv : F = (⟨4, [x], 0⟩, 1, 0) := by rw [HF.out]; exact lfirst_sign HNG.out hlx'.out hfx'.out hqx.out hS
                    exact .inl ⟨by rw [hFv], by rw [hFv]; rfl, by rw [hE], by rw [hFv]; exact hk5⟩
                  · have hFv : F.2.2 = 9 := by rw [HF.out]; exact lfirst_none HNG.out hlx'.out hfx'.out hqx.out hS
                    exact .inr ⟨by rw [hFv]; decide, by rw [hE, hFv]; rfl, _, rfl⟩
            · as_aux_lemma =>
              rw [hlx] at HLX
              rw [hfx] at HFX
              have HFX' := Lib.hid (fun (u : World) => by have h := ref_figure_any u x; rw [hfx] at h; exact h)
              have HW := Lib.hid (lfirst_fig HNG.out hlx hfx)
              have HLX' := Lib.hid HLX
              have hfx' := Lib.hid hfx
              clear HLX HFX hlx hfx
              go_wp2_with fail
              refine HLX'.out.mono ?_
              rintro e wt ⟨rfl, rfl⟩
              go_wp2_with fail
              refine (HFX'.out _).mono ?_
              rintro e wt ⟨rfl, rfl⟩
              go_upto_block 5 with fail
              go_cut [13] (fun s13 wc => ∃ q : Nat, Hid (q = nx + lspan lxIn (x :: r)) ∧ s13 = .int .i64 (q : Int) ∧ wc = wt)
              case first =>
                go_wp2_with fail
                go_loopg [13] (l.length - nx) (fun g1 a wx => ∃ q j : Nat, q + g1 = l.length ∧ Hid (q = nx + j) ∧ a = .int .i64 (q : Int) ∧ wx = wt ∧ Hid (∀ (k : Nat) (c : UInt8), k < j → (x :: r)[k]? = some c → lxIn c = true))
                case atStart => exact ⟨nx, 0, by omega, Lib.hid rfl, rfl, rfl, Lib.hid (fun _ _ h => absurd h (Nat.not_lt_zero _))⟩
                case round =>
                  obtain ⟨q, j, hqg, HQ, rfl, rfl, HJ⟩ := hrel
                  by_cases hql : q < l.length
                  · have hqi : (q : Int) < (l.length : Int) := by omega
                    have hqx := str_index l q hql
                    obtain ⟨c, hc⟩ : ∃ c, l[q] = c := ⟨_, rfl⟩
                    rw [hc] at hqx
                    have HC := Lib.hid (show (x :: r)[j]? = some c by rw [← HR.out, List.getElem?_drop, ← HQ.out, List.getElem?_eq_getElem hql, hc])
                    have HIN := Lib.hid (show lxIn c = (lxLet c || lxFig c) from rfl)
                    have HME := ref_letter_any wr c
                    have HMF := ref_figure_any wr c
                    clear hc
                    cases hb1 : lxLet c
                    · cases hb2 : lxFig c
                      · rw [hb1] at HME
                        rw [hb2] at HMF
                        have HS := Lib.hid (show q = nx + lspan lxIn (x :: r) by
                          rw [lspan_eq (by rw [hrl]; have := HQ.out; omega) HJ.out (fun d hd => by rw [HC.out] at hd; cases hd; rw [HIN.out, hb1, hb2]; rfl)]
                          exact HQ.out)
                        have HME' := Lib.hid HME
                        have HMF' := Lib.hid HMF
                        clear HME HMF hb1 hb2
                        go_wp2_with fail
                        refine HME'.out.mono ?_
                        rintro e wr ⟨rfl, rfl⟩
                        go_wp2_with fail
                        refine HMF'.out.mono ?_
                        rintro e wr ⟨rfl, rfl⟩
                        go_wp2_with fail
                        go_meet
                        exact ⟨q, HS, rfl, rfl⟩
                      · rw [hb1] at HME
                        rw [hb2] at HMF
                        have HJ' := Lib.hid (show ∀ (k : Nat) (d : UInt8), k < j + 1 → (x :: r)[k]? = some d → lxIn d = true from fun k d hk hd => by
                          by_cases e : k = j
                          · subst e; rw [HC.out] at hd; cases hd; rw [HIN.out, hb1, hb2]; rfl
                          · exact HJ.out k d (by omega) hd)
                        have HME' := Lib.hid HME
                        have HMF' := Lib.hid HMF
                        clear HME HMF hb1 hb2
                        go_wp2_with fail
                        refine HME'.out.mono ?_
                        rintro e wr ⟨rfl, rfl⟩
                        go_wp2_with fail
                        refine HMF'.out.mono ?_
                        rintro e wr ⟨rfl, rfl⟩
                        go_wp2_with fail
                        go_roundg (l.length - (q + 1))
                        case measure => omega
                        case rel => exact ⟨q + 1, j + 1, by omega, Lib.hid (by rw [HQ.out]; omega), by go_num, rfl, HJ'⟩
                    · rw [hb1] at HME
                      have HJ' := Lib.hid (show ∀ (k : Nat) (d : UInt8), k < j + 1 → (x :: r)[k]? = some d → lxIn d = true from fun k d hk hd => by
                        by_cases e : k = j
                        · subst e; rw [HC.out] at hd; cases hd; rw [HIN.out, hb1]; rfl
                        · exact HJ.out k d (by omega) hd)
                      have HME' := Lib.hid HME
                      clear HME HMF hb1
                      go_wp2_with fail
                      refine HME'.out.mono ?_
                      rintro e wr ⟨rfl, rfl⟩
                      go_wp2_with fail
                      go_roundg (l.length - (q + 1))
                      case measure => omega
                      case rel => exact ⟨q + 1, j + 1, by omega, Lib.hid (by rw [HQ.out]; omega), by go_num, rfl, HJ'⟩
                  · have hqi : ¬ (q : Int) < (l.length : Int) := by omega
                    have HS := Lib.hid (show q = nx + lspan lxIn (x :: r) by
                      rw [lspan_eq (by rw [hrl]; have := HQ.out; omega) HJ.out (fun d hd => by
                        have h1 := (List.getElem?_eq_some_iff.1 hd).1
                        rw [hrl] at h1
                        have := HQ.out
                        omega)]
                      exact HQ.out)
                    go_wp2_with fail
                    go_meet
                    exact ⟨q, HS, rfl, rfl⟩
              case rest =>
                obtain ⟨q, HQ, rfl, rfl⟩ := hcut
                have hsl := lspan_le lxIn (x :: r)
                rw [hrl] at hsl
                obtain ⟨S, hS⟩ : ∃ S, S = lspan lxIn (x :: r) := ⟨_, rfl⟩
                rw [← hS] at hsl
                have hqs : q = nx + S := by rw [HQ.out, hS]
                have hmid : ∀ u, (Instr.slice 9 (.string (str l)) (some (.int .i64 (nx : Int))) (some (.int .i64 (q : Int))) none).run Tryz.prog u = .ok (.string (str ((x :: r).take S))) u := fun u => by
                  have h := str_mid l nx q (by omega) (by omega) u
                  rw [show q - nx = S by omega, HR.out] at h
                  exact h
                have HSS := Lib.hid hS
                have HQS := Lib.hid hqs
                clear hS hqs
                have f0 := hkt.frozen 0
                have f1 := hkt.frozen 1
                have f2 := hkt.frozen 2
                obtain ⟨c0, c1, c2, c3, c4⟩ := hkt.cells5
                go_wp2_with fail
                go_region
                obtain ⟨w5, hw5⟩ : ∃ w5, w5 = ((wc.setCell ⟨w0.heap.size, 0, none⟩ (.int .i64 1)).setCell ⟨w0.heap.size, 1, none⟩ (.string (str ((x :: r).take S)))).drew := ⟨_, rfl⟩
                have hk5 : Blk w5 w0.heap.size 97 (tokCells ⟨1, (x :: r).take S, 0⟩ (placeAt l nx).1 (placeAt l nx).2) := hw5 ▸ ((hkt.set_ 0 (.int .i64 1)).set_ 1 (.string (str ((x :: r).take S)))).drew
                have hb5 : Below w0.heap.size w0 w5 := hw5 ▸ below_drewN ((hbt.setCell (p := ⟨w0.heap.size, 0, none⟩) (Nat.le_refl _) (.int .i64 1)).setCell (p := ⟨w0.heap.size, 1, none⟩) (Nat.le_refl _) (.string (str ((x :: r).take S)))) 1
                rw [← hw5]
                clear hw5 f0 f1 f2 c0 c1 c2 c3 c4 hmid
                have g0 := hk5.frozen 0
                have g2 := hk5.frozen 2
                obtain ⟨d0, d1, d2, d3, d4⟩ := hk5.cells5
                go_wp2_with fail
                refine (HFX'.out w5).mono ?_
                rintro e w5 ⟨rfl, rfl⟩
                have hpl : 0 < ((x :: r).take S).length := by
                  rw [List.length_take, hrl, HSS.out]
                  have : 0 < lspan lxIn (x :: r) := lspan_first (by simp) (by show lxIn x = true; unfold lxIn; rw [hfx'.out, Bool.or_true])
                  omega
                have hpm : ((x :: r).take S).length < 1000000000 := by rw [List.length_take, hrl]; omega
                have HN := Lib.hid (fun (u : World) => refNum_any u ((x :: r).take S) hpl hpm)
                have HE := Lib.hid HW.out
                rw [← HSS.out] at HE
                generalize (x :: r).take S = piece at *
                generalize lnum piece = N at *
                obtain ⟨n, c⟩ := N
                simp only at HN HE
                clear hpl hpm
                go_wp2_with fail
                refine (HN.out _).mono ?_
                rintro e w6 ⟨rfl, hw6⟩
                subst hw6
                go_wp2_with fail
                go_meet
                have hk6 := (hk5.set_ 0 (.int .i64 2)).set_ 2 (.int .i64 (n : Int))
                have hb6 := (hb5.setCell (p := ⟨w0.heap.size, 0, none⟩) (Nat.le_refl _) (.int .i64 2)).setCell (p := ⟨w0.heap.size, 2, none⟩) (Nat.le_refl _) (.int .i64 (n : Int))
                refine ⟨hb6, ?_⟩
                by_cases hc : c = 0
                · have hFv : F = (⟨2, piece, n⟩, S, 0) := by rw [HF.out, HE.out, if_pos hc]
                  exact .inl ⟨by rw [hFv], by rw [hFv]; show Value.int .i64 (q : Int) = .int .i64 (((nx + S : Nat)) : Int); rw [HQS.out], by rw [hc]; rfl, by rw [hFv]; exact hk6⟩
                · have hFv : F.2.2 = c := by rw [HF.out, HE.out, if_neg hc]
                  exact .inr ⟨by rw [hFv]; exact hc, by rw [hFv], (q : Int), rfl⟩
          · as_aux_lemma =>
            rw [hlx] at HLX
            have HFX' := Lib.hid (fun (u : World) => by have h := ref_figure_any u x; rw [let_not_fig hlx] at h; exact h)
            have HW := Lib.hid (lfirst_word HNG.out hlx)
            have HLX' := Lib.hid HLX
            clear HLX HFX hlx
            go_wp2_with fail
            refine HLX'.out.mono ?_
            rintro e wt ⟨rfl, rfl⟩
            go_upto_block 5 with fail
            go_cut [13] (fun s13 wc => ∃ q : Nat, Hid (q = nx + lspan lxIn (x :: r)) ∧ s13 = .int .i64 (q : Int) ∧ wc = wt)
            case first =>
              go_wp2_with fail
              go_loopg [13] (l.length - nx) (fun g1 a wx => ∃ q j : Nat, q + g1 = l.length ∧ Hid (q = nx + j) ∧ a = .int .i64 (q : Int) ∧ wx = wt ∧ Hid (∀ (k : Nat) (c : UInt8), k < j → (x :: r)[k]? = some c → lxIn c = true))
              case atStart => exact ⟨nx, 0, by omega, Lib.hid rfl, rfl, rfl, Lib.hid (fun _ _ h => absurd h (Nat.not_lt_zero _))⟩
              case round =>
                obtain ⟨q, j, hqg, HQ, rfl, rfl, HJ⟩ := hrel
                by_cases hql : q < l.length
                · have hqi : (q : Int) < (l.length : Int) := by omega
                  have hqx := str_index l q hql
                  obtain ⟨c, hc⟩ : ∃ c, l[q] = c := ⟨_, rfl⟩
                  rw [hc] at hqx
                  have HC := Lib.hid (show (x :: r)[j]? = some c by rw [← HR.out, List.getElem?_drop, ← HQ.out, List.getElem?_eq_getElem hql, hc])
                  have HIN := Lib.hid (show lxIn c = (lxLet c || lxFig c) from rfl)
                  have HME := ref_letter_any wr c
                  have HMF := ref_figure_any wr c
                  clear hc
                  cases hb1 : lxLet c
                  · cases hb2 : lxFig c
                    · rw [hb1] at HME
                      rw [hb2] at HMF
                      have HS := Lib.hid (show q = nx + lspan lxIn (x :: r) by
                        rw [lspan_eq (by rw [hrl]; have := HQ.out; omega) HJ.out (fun d hd => by rw [HC.out] at hd; cases hd; rw [HIN.out, hb1, hb2]; rfl)]
                        exact HQ.out)
                      have HME' := Lib.hid HME
                      have HMF' := Lib.hid HMF
                      clear HME HMF hb1 hb2
                      go_wp2_with fail
                      refine HME'.out.mono ?_
                      rintro e wr ⟨rfl, rfl⟩
                      go_wp2_with fail
                      refine HMF'.out.mono ?_
                      rintro e wr ⟨rfl, rfl⟩
                      go_wp2_with fail
                      go_meet
                      exact ⟨q, HS, rfl, rfl⟩
                    · rw [hb1] at HME
                      rw [hb2] at HMF
                      have HJ' := Lib.hid (show ∀ (k : Nat) (d : UInt8), k < j + 1 → (x :: r)[k]? = some d → lxIn d = true from fun k d hk hd => by
                        by_cases e : k = j
                        · subst e; rw [HC.out] at hd; cases hd; rw [HIN.out, hb1, hb2]; rfl
                        · exact HJ.out k d (by omega) hd)
                      have HME' := Lib.hid HME
                      have HMF' := Lib.hid HMF
                      clear HME HMF hb1 hb2
                      go_wp2_with fail
                      refine HME'.out.mono ?_
                      rintro e wr ⟨rfl, rfl⟩
                      go_wp2_with fail
                      refine HMF'.out.mono ?_
                      rintro e wr ⟨rfl, rfl⟩
                      go_wp2_with fail
                      go_roundg (l.length - (q + 1))
                      case measure => omega
                      case rel => exact ⟨q + 1, j + 1, by omega, Lib.hid (by rw [HQ.out]; omega), by go_num, rfl, HJ'⟩
                  · rw [hb1] at HME
                    have HJ' := Lib.hid (show ∀ (k : Nat) (d : UInt8), k < j + 1 → (x :: r)[k]? = some d → lxIn d = true from fun k d hk hd => by
                      by_cases e : k = j
                      · subst e; rw [HC.out] at hd; cases hd; rw [HIN.out, hb1]; rfl
                      · exact HJ.out k d (by omega) hd)
                    have HME' := Lib.hid HME
                    clear HME HMF hb1
                    go_wp2_with fail
                    refine HME'.out.mono ?_
                    rintro e wr ⟨rfl, rfl⟩
                    go_wp2_with fail
                    go_roundg (l.length - (q + 1))
                    case measure => omega
                    case rel => exact ⟨q + 1, j + 1, by omega, Lib.hid (by rw [HQ.out]; omega), by go_num, rfl, HJ'⟩
                · have hqi : ¬ (q : Int) < (l.length : Int) := by omega
                  have HS := Lib.hid (show q = nx + lspan lxIn (x :: r) by
                    rw [lspan_eq (by rw [hrl]; have := HQ.out; omega) HJ.out (fun d hd => by
                      have h1 := (List.getElem?_eq_some_iff.1 hd).1
                      rw [hrl] at h1
                      have := HQ.out
                      omega)]
                    exact HQ.out)
                  go_wp2_with fail
                  go_meet
                  exact ⟨q, HS, rfl, rfl⟩
            case rest =>
              obtain ⟨q, HQ, rfl, rfl⟩ := hcut
              have hsl := lspan_le lxIn (x :: r)
              rw [hrl] at hsl
              obtain ⟨S, hS⟩ : ∃ S, S = lspan lxIn (x :: r) := ⟨_, rfl⟩
              rw [← hS] at hsl
              have hqs : q = nx + S := by rw [HQ.out, hS]
              have hmid : ∀ u, (Instr.slice 9 (.string (str l)) (some (.int .i64 (nx : Int))) (some (.int .i64 (q : Int))) none).run Tryz.prog u = .ok (.string (str ((x :: r).take S))) u := fun u => by
                have h := str_mid l nx q (by omega) (by omega) u
                rw [show q - nx = S by omega, HR.out] at h
                exact h
              have HSS := Lib.hid hS
              have HQS := Lib.hid hqs
              clear hS hqs
              have f0 := hkt.frozen 0
              have f1 := hkt.frozen 1
              have f2 := hkt.frozen 2
              obtain ⟨c0, c1, c2, c3, c4⟩ := hkt.cells5
              go_wp2_with fail
              go_region
              obtain ⟨w5, hw5⟩ : ∃ w5, w5 = ((wc.setCell ⟨w0.heap.size, 0, none⟩ (.int .i64 1)).setCell ⟨w0.heap.size, 1, none⟩ (.string (str ((x :: r).take S)))).drew := ⟨_, rfl⟩
              have hk5 : Blk w5 w0.heap.size 97 (tokCells ⟨1, (x :: r).take S, 0⟩ (placeAt l nx).1 (placeAt l nx).2) := hw5 ▸ ((hkt.set_ 0 (.int .i64 1)).set_ 1 (.string (str ((x :: r).take S)))).drew
              have hb5 : Below w0.heap.size w0 w5 := hw5 ▸ below_drewN ((hbt.setCell (p := ⟨w0.heap.size, 0, none⟩) (Nat.le_refl _) (.int .i64 1)).setCell (p := ⟨w0.heap.size, 1, none⟩) (Nat.le_refl _) (.string (str ((x :: r).take S)))) 1
              rw [← hw5]
              clear hw5 f0 f1 f2 c0 c1 c2 c3 c4 hmid
              have HE := Lib.hid (HW.out)
              go_wp2_with fail
              refine (HFX'.out w5).mono ?_
              rintro e w5 ⟨rfl, rfl⟩
              by_cases h40 : 40 < S
              · have h40' : (40 : Int) < (q : Int) - (nx : Int) := by have := HQS.out; omega
                have hqb : nx ≤ q ∧ q ≤ l.length := by have := HQS.out; omega
                obtain ⟨hqb0, hqb1⟩ := hqb
                have hFv : F.2.2 = 3 := by rw [HF.out, HE.out, ← HSS.out, if_pos h40]
                clear HLX' HFX'
                go_wp2_with fail
                go_meet
                exact ⟨hb5, .inr ⟨by rw [hFv]; decide, by rw [hFv]; rfl, (q : Int), rfl⟩⟩
              · have h40' : ¬ (40 : Int) < (q : Int) - (nx : Int) := by have := HQS.out; omega
                have hqb : nx ≤ q ∧ q ≤ l.length := by have := HQS.out; omega
                obtain ⟨hqb0, hqb1⟩ := hqb
                have hFv : F = (⟨1, (x :: r).take S, 0⟩, S, 0) := by rw [HF.out, HE.out, ← HSS.out, if_neg h40]
                have HFV := Lib.hid hFv
                clear hFv HLX' HFX'
                go_wp2_with fail
                go_meet
                exact ⟨hb5, .inl ⟨by rw [HFV.out], by rw [HFV.out]; show Value.int .i64 (q : Int) = .int .i64 (((nx + S : Nat)) : Int); rw [HQS.out], rfl, by rw [HFV.out]; exact hk5⟩⟩
end Go.Proofs.YtfcjeciepadmeaaGreatDoor
