/- The walk of RecordParses: for all bytes the answer is true, and nothing that was there turns. Condition: the errors' variables hold different pointers, as the program's text lays them. -/
import Derived.Test.YtlndejanojgjlaaDoorProg
import Derived.Test.YtlndejanojgjlaaDoorMem
import Derived.Test.YtlndejanojgjlaaDoorBytes
import Derived.Test.YtlndejanojgjlaaDoorKept
import Derived.Test.YtlndejanojgjlaaDoorNum
import Derived.Test.YtlndejanojgjlaaDoorGrow
import Derived.Test.YtlndejanojgjlaaDoorHolds
import Derived.Test.YtlndejanojgjlaaDoorAlive04
import Derived.Test.YtlndejanojgjlaaDoorRef04b
import Derived.Test.YtlndejanojgjlaaDoorRall
import Derived.Laws.StructEq
import Derived.BigGuardPart
namespace Go.Proofs.YtlndejanojgjlaaDoor
open Go.RowKit

set_option maxRecDepth 100000 in
theorem rparses_far (w : World) (A : Nat → Addr) (hE : Errs w A) (p : Option Addr) (l : List UInt8) (c : Nat) (h : 400 < l.length) :
    Calls Tryd.prog 3 #[.slice p l.length c] w fun e w' => e = .returned (.bool true) ∧ Below w.heap.size w w' := by
  go_enter Tryd.func3, Tryd.ntmps3
  go_wp2_with fail
  refine (alive04_any w A hE).mono ?_
  rintro e w1 ⟨rfl, hb1⟩
  go_wp2_with fail
  go_ret
  exact ⟨rfl, hb1⟩

theorem rec_ext {w : World} {g : Nat} {t : TypeId} {r : RecI} (h : Blk w g t r.cells) :
    w.cell? ⟨g, 0, none⟩ = some (.int .i64 r.n) ∧ w.cell? ⟨g, 1, none⟩ = some (.int .i64 r.k) ∧ w.cell? ⟨g, 2, none⟩ = some (.int .u64 (r.bits : Int)) ∧ w.cell? ⟨g, 3, none⟩ = some (.string (str r.text)) ∧ w.cell? ⟨g, 4, none⟩ = some (.string (str r.raw)) :=
  ⟨h.cell 0, h.cell 1, h.cell 2, h.cell 3, h.cell 4⟩

set_option maxRecDepth 100000 in
set_option maxHeartbeats 4000000 in
theorem rparses_near (w : World) (A : Nat → Addr) (hE : Errs w A) (p : Option Addr) (l : List UInt8) (c : Nat) (hs : Sl w w.heap.size p l) (hc : l.length ≤ c) (h400 : l.length ≤ 400) :
    Calls Tryd.prog 3 #[.slice p l.length c] w fun e w' => e = .returned (.bool true) ∧ Below w.heap.size w w' := by
  have hR2 := rparse_err l
  have hA2 := rall_err l.length l (Nat.le_refl _)
  have HPP := fun ws hE q cc B hc hB hs => recParse_any ws A hE q l cc B (by omega) hc hB hs
  have HRP := fun ws q cc B hc hB hs => refRec_any ws q l cc B (by omega) hc hB hs
  have HPA := fun ws hE q cc B hc hcm hB hs => recAll_any ws A hE q l cc B (by omega) hc hcm hB hs
  have HRA := fun ws q cc B hc hB hs => refRecAll_any ws q l cc B (by omega) hc hB hs
  unfold RecsL at HPA
  unfold RecsLN at HRA
  generalize rparse l = R at *
  generalize rall l = S at *
  obtain ⟨r, s, b⟩ := R
  obtain ⟨rs, b2⟩ := S
  unfold Recs RecD.val recV at HPP
  unfold RecsN RecD.val recV at HRP
  simp only at HPP HRP HPA HRA hR2 hA2
  obtain ⟨xs, hxs⟩ : ∃ xs, xs = rs.map RecD.i := ⟨_, rfl⟩
  have hxl : xs.length ≤ 400 := by rw [hxs, List.length_map]; omega
  rw [← hxs] at HPA HRA
  have hb2 := hA2.1
  clear hxs hA2
  replace HPP := Lib.hid HPP
  replace HRP := Lib.hid HRP
  replace HPA := Lib.hid HPA
  replace HRA := Lib.hid HRA
  have HOF := fun ws => of_any ws r.n r.k r.bits r.text r.raw
  unfold recV at HOF
  replace HOF := Lib.hid HOF
  obtain ⟨E1, hE1⟩ : ∃ E, E = errOf A b := ⟨_, rfl⟩
  obtain ⟨E2, hE2⟩ : ∃ E, E = errOf A b2 := ⟨_, rfl⟩
  have HN1 := Lib.hid (fun ws hE => num_of ws A hE b hR2)
  have HN2 := Lib.hid (fun ws hE => num_of ws A hE b2 hb2)
  rw [← hE1] at HPP HN1
  rw [← hE2] at HPA HN2
  clear hE1 hE2 hR2 hb2
  go_enter Tryd.func3, Tryd.ntmps3
  go_wp2_with fail
  refine (alive04_any w A hE).mono ?_
  rintro e w1 ⟨rfl, hb1⟩
  have hs1 := hs.below hb1
  go_wp2_with fail
  refine (bytes_any w1 p l c w.heap.size (by omega) hs1 hb1.size).mono ?_
  rintro e w2 ⟨rfl, hin, hb2⟩
  have hsin : Sl w2 (w1.heap.size + 1) (some ⟨w1.heap.size, 0, none⟩) l := Sl.of_blk hin (by omega) fun i x hx => by
    have hi : i < l.length := by
      rcases Nat.lt_or_ge i l.length with h | h
      · exact h
      · rw [List.getElem?_eq_none h] at hx; cases hx
    rw [List.getElem?_append_left (by simpa using hi), List.getElem?_map, hx]
    rfl
  have hlt2 := hin.lt
  have h02 : Below w.heap.size w w2 := hb1.trans (hb2.mono hb1.size)
  go_wp2_with fail
  refine (HPP.out w2 (hE.below h02) (some ⟨w1.heap.size, 0, none⟩) (l.length + 6) (w1.heap.size + 1) (by omega) hlt2 hsin).mono ?_
  rintro e w3 ⟨rfl, hb3⟩
  have h03 : Below w.heap.size w w3 := h02.trans (hb3.mono h02.size)
  obtain ⟨w4, hw4⟩ : ∃ w4, w4 = w3.alloc (.cells #[.int .i64 (r.n : Int), .int .i64 (r.k : Int), .int .u64 (r.bits : Int), .string (str r.text), .string (str r.raw)] 29) := ⟨_, rfl⟩
  have hk4 : Blk w4 w3.heap.size 29 r.i.cells := hw4 ▸ Blk.new w3 _ _
  have hb4 : Below w3.heap.size w3 w4 := hw4 ▸ (Below.refl _ _).alloc (Nat.le_refl _) _
  have h04 : Below w.heap.size w w4 := h03.trans (hb4.mono h03.size)
  go_wp2_with fail
  rw [← hw4]
  refine (HRP.out w4 p c w.heap.size hc h04.size (hs.below h04)).mono ?_
  rintro e w5 ⟨rfl, hb5⟩
  clear hw4
  have h05 : Below w.heap.size w w5 := h04.trans (hb5.mono h04.size)
  obtain ⟨w6, hw6⟩ : ∃ w6, w6 = w5.alloc (.cells #[.int .i64 (r.n : Int), .int .i64 (r.k : Int), .int .u64 (r.bits : Int), .string (str r.text), .string (str r.raw)] 35) := ⟨_, rfl⟩
  have hk6 : Blk w6 w5.heap.size 35 r.i.cells := hw6 ▸ Blk.new w5 _ _
  have hb6 : Below w5.heap.size w5 w6 := hw6 ▸ (Below.refl _ _).alloc (Nat.le_refl _) _
  have h06 : Below w.heap.size w w6 := h05.trans (hb6.mono h05.size)
  have hk46 := (hk4.kept hb5).kept hb6
  have hin6 := (((hin.kept hb3).kept hb4).kept hb5).kept hb6
  have h26 : Below w2.heap.size w2 w6 := hb3.trans ((hb4.trans ((hb5.trans (hb6.mono hb5.size)).mono hb4.size)).mono hb3.size)
  have hsin6 := hsin.below (h26.mono hlt2)
  have hE6 := hE.below h06
  clear hb1 hb2 hb3 hb4 hb5 hb6 hk4 hin hsin h02 h03 h04 h05 hs1 HPP HRP
  go_wp2_with fail
  rw [← hw6]
  clear hw6
  refine wp_region_grow (Below w6.heap.size w6) (fun u u' => Below u.heap.size u u') (.is (.agg #[.int .i64 (r.n : Int), .int .i64 (r.k : Int), .int .u64 (r.bits : Int), .string (str r.text), .string (str r.raw)]) :: .is (.agg #[.int .i64 (r.n : Int), .int .i64 (r.k : Int), .int .u64 (r.bits : Int), .string (str r.text), .string (str r.raw)]) :: .is (.agg #[.int .i64 (r.n : Int), .int .i64 (r.k : Int), .int .u64 (r.bits : Int), .string (str r.text), .string (str r.raw)]) :: .is (.bool false) :: .is (.bool false) :: .is (.int .i64 (s : Int)) :: .is (.int .i64 (s : Int)) :: .is (.bool false) :: .is (.bool false) :: .is (.bool false) :: .is E1 :: .is (.int .i64 (b : Int)) :: .is (.int .i64 (b : Int)) :: .is (.bool false) :: .is (.bool false) :: []) (by kernel_rfl) (by kernel_rfl) (fun u u' h hC => hC.trans (h.mono hC.size)) (by repeat (first | exact trivial | refine ⟨by first | exact stay_is | exact stay_holds _, ?_⟩)) ((Below.refl _ _).drew) ?h
  case h =>
    refine wpT_is (fun _ => Below.refl _ _) rfl (fun wx hC hS => by obtain ⟨e0, e1, e2, e3, e4⟩ := rec_ext (hk46.below hC hk46.lt); dsimp only [RecD.i] at e0 e1 e2 e3 e4; go_simp <;> rfl) ?_
    simp only [Act.put, List.setIfInBounds_toArray, List.set_cons_zero, List.set_cons_succ]
    refine wpT_callIs rfl (fun wx hC _ => by go_simp <;> first | exact ⟨rfl, rfl⟩ | rfl) (fun wx hC _ => HOF.out wx) ?_
    simp only [Act.put, List.setIfInBounds_toArray, List.set_cons_zero, List.set_cons_succ]
    refine wpT_is (fun _ => Below.refl _ _) rfl (fun wx hC hS => by obtain ⟨e0, e1, e2, e3, e4⟩ := rec_ext (hk6.below hC hk6.lt); dsimp only [RecD.i] at e0 e1 e2 e3 e4; go_simp <;> rfl) ?_
    simp only [Act.put, List.setIfInBounds_toArray, List.set_cons_zero, List.set_cons_succ]
    refine wpT_is (fun _ => Below.refl _ _) rfl (fun wx hC hS => by go_simp <;> rfl) ?_
    simp only [Act.put, List.setIfInBounds_toArray, List.set_cons_zero, List.set_cons_succ]
    refine wpT_is (fun _ => Below.refl _ _) rfl (fun wx hC hS => by go_simp <;> rfl) ?_
    simp only [Act.put, List.setIfInBounds_toArray, List.set_cons_zero, List.set_cons_succ]
    refine wpT_is (fun _ => Below.refl _ _) rfl (fun wx hC hS => by go_simp <;> rfl) ?_
    simp only [Act.put, List.setIfInBounds_toArray, List.set_cons_zero, List.set_cons_succ]
    refine wpT_is (fun _ => Below.refl _ _) rfl (fun wx hC hS => by go_simp <;> rfl) ?_
    simp only [Act.put, List.setIfInBounds_toArray, List.set_cons_zero, List.set_cons_succ]
    refine wpT_is (fun _ => Below.refl _ _) rfl (fun wx hC hS => by go_simp <;> rfl) ?_
    simp only [Act.put, List.setIfInBounds_toArray, List.set_cons_zero, List.set_cons_succ]
    refine wpT_is (fun _ => Below.refl _ _) rfl (fun wx hC hS => by go_simp <;> rfl) ?_
    simp only [Act.put, List.setIfInBounds_toArray, List.set_cons_zero, List.set_cons_succ]
    refine wpT_is (fun _ => Below.refl _ _) rfl (fun wx hC hS => by go_simp <;> rfl) ?_
    simp only [Act.put, List.setIfInBounds_toArray, List.set_cons_zero, List.set_cons_succ]
    refine wpT_is (fun _ => Below.refl _ _) rfl (fun wx hC hS => by go_simp <;> rfl) ?_
    simp only [Act.put, List.setIfInBounds_toArray, List.set_cons_zero, List.set_cons_succ]
    refine wpT_callIs rfl (fun wx hC _ => by go_simp <;> first | exact ⟨rfl, rfl⟩ | rfl) (fun wx hC _ => HN1.out wx (hE6.below hC)) ?_
    simp only [Act.put, List.setIfInBounds_toArray, List.set_cons_zero, List.set_cons_succ]
    refine wpT_is (fun _ => Below.refl _ _) rfl (fun wx hC hS => by go_simp <;> rfl) ?_
    simp only [Act.put, List.setIfInBounds_toArray, List.set_cons_zero, List.set_cons_succ]
    refine wpT_is (fun _ => Below.refl _ _) rfl (fun wx hC hS => by go_simp <;> rfl) ?_
    simp only [Act.put, List.setIfInBounds_toArray, List.set_cons_zero, List.set_cons_succ]
    refine wpT_is (fun _ => Below.refl _ _) rfl (fun wx hC hS => by go_simp <;> rfl) ?_
    simp only [Act.put, List.setIfInBounds_toArray, List.set_cons_zero, List.set_cons_succ]
    refine wpT_nil fun w7 hb7 _ => ?_
    have h07 : Below w.heap.size w w7 := h06.trans (hb7.mono h06.size)
    have hin7 := hin6.below hb7 hin6.lt
    have hsin7 := hsin6.below (hb7.mono (Nat.le_trans hlt2 h26.size))
    clear hk46 hk6 HOF HN1 hin6 hsin6
    go_wp2_with fail
    refine (HPA.out w7 (hE6.below hb7) (some ⟨w1.heap.size, 0, none⟩) (l.length + 6) (w1.heap.size + 1) (by omega) (by unfold maxLen; omega) (Nat.le_trans hlt2 (Nat.le_trans h26.size hb7.size)) hsin7).mono ?_
    rintro e w8 ⟨v8, rfl, hown8, hb8⟩
    obtain ⟨q8, c8, rfl, hrs8, hc8, _⟩ := own_rs hown8
    have h08 : Below w.heap.size w w8 := h07.trans (hb8.mono h07.size)
    go_wp2_with fail
    refine (HRA.out w8 p c w.heap.size hc h08.size (hs.below h08)).mono ?_
    rintro e w9 ⟨v9, rfl, hown9, hb9⟩
    obtain ⟨q9, c9, rfl, hrs9, hc9, _⟩ := own_rs hown9
    have h09 : Below w.heap.size w w9 := h08.trans (hb9.mono h08.size)
    have hrs89 := hrs8.below hb9
    have hin9 := (hin7.kept hb8).kept hb9
    clear hown8 hown9 HPA HRA hsin7 hin7
    go_wp2_with fail
    refine (HN2.out w9 (hE.below h09)).mono ?_
    rintro e w10 ⟨rfl, hb10⟩
    have h010 : Below w.heap.size w w10 := h09.trans (hb10.mono h09.size)
    go_wp2_with fail
    refine (kept_any w10 w1.heap.size p l c w.heap.size (by omega) (hs.below h010) (hin9.kept hb10)).mono ?_
    rintro e w11 ⟨rfl, rfl⟩
    have hrs10 := hrs89.below (hb10.mono hb9.size)
    have hrs10' := hrs9.below hb10
    have h810 : w8.heap.size ≤ w10.heap.size := Nat.le_trans hb9.size hb10.size
    have h910 := hb10.size
    clear HN2 hrs89 hrs8 hrs9 hin9 hb7 hb8 hb9 hb10 h07 h08 h09 h06
    go_wp2_with fail
    go_loopw [77] (fun i wr => ∃ k : Nat, k ≤ xs.length ∧ i = .int .i64 (k : Int) ∧ Below w10.heap.size w10 wr) (fun i _ => xs.length - (intOf i).toNat)
    case atStart => exact ⟨0, by omega, rfl, Below.refl _ _⟩
    case round =>
      obtain ⟨k, hk, rfl, hbr⟩ := hrel
      by_cases hlt : k < xs.length
      · obtain ⟨g8, o8, rfl, hg8, d0, d1, d2, d3, d4⟩ := (hrs10.below (hbr.mono h810)).at_ hlt
        have hrs9r := hrs10'.below (hbr.mono h910)
        have HO := Lib.hid (fun ws => of_any ws xs[k].n xs[k].k xs[k].bits xs[k].text xs[k].raw)
        obtain ⟨g9, o9, rfl, hg9, c0, c1, c2, c3, c4⟩ := hrs9r.at_ hlt
        have hx9 := Lib.hid hrs9r
        generalize xs[k] = x at *
        obtain ⟨wa, hwa⟩ : ∃ wa, wa = wr.alloc (.cells #[.int .i64 x.n, .int .i64 x.k, .int .u64 (x.bits : Int), .string (str x.text), .string (str x.raw)] 29) := ⟨_, rfl⟩
        have hba : Below wr.heap.size wr wa := hwa ▸ (Below.refl _ _).alloc (Nat.le_refl _) _
        have hka : Blk wa wr.heap.size 29 x.cells := hwa ▸ Blk.new wr _ _
        have hlt9 : g9 < wr.heap.size := by have := hbr.size; omega
        have HC9 := Lib.hid (fun wx (h : Below wa.heap.size wa wx) (j : Nat) => show wx.cell? ⟨g9, j, none⟩ = wr.cell? ⟨g9, j, none⟩ from
          (h.cell (p := ⟨g9, j, none⟩) (by have := hba.size; simp; omega)).trans (hba.cell (p := ⟨g9, j, none⟩) hlt9))
        go_wp2_with fail
        rw [← hwa]
        clear hwa
        refine wp_region_grow (Below wa.heap.size wa) (fun u u' => Below u.heap.size u u') (.is (.agg #[.int .i64 x.n, .int .i64 x.k, .int .u64 (x.bits : Int), .string (str x.text), .string (str x.raw)]) :: .is (.agg #[.int .i64 x.n, .int .i64 x.k, .int .u64 (x.bits : Int), .string (str x.text), .string (str x.raw)]) :: .is (.slice (some ⟨g9, o9, none⟩) xs.length c9) :: .is (.int .i64 (k : Int)) :: .is (.pointer (some ⟨g9, o9 + k * 5, none⟩)) :: .is (.agg #[.int .i64 x.n, .int .i64 x.k, .int .u64 (x.bits : Int), .string (str x.text), .string (str x.raw)]) :: .is (.bool false) :: []) (by kernel_rfl) (by kernel_rfl) (fun u u' h hC => hC.trans (h.mono hC.size)) (by repeat (first | exact trivial | refine ⟨by first | exact stay_is | exact stay_holds _, ?_⟩)) ((Below.refl _ _).drew) ?h2
        case h2 =>
          refine wpT_is (fun _ => Below.refl _ _) rfl (fun wx hC hS => by obtain ⟨e0, e1, e2, e3, e4⟩ := rec_ext (hka.below hC hka.lt); go_simp <;> rfl) ?_
          simp only [Act.put, List.setIfInBounds_toArray, List.set_cons_zero, List.set_cons_succ]
          refine wpT_callIs rfl (fun wx hC _ => by go_simp <;> first | exact ⟨rfl, rfl⟩ | rfl) (fun wx hC _ => HO.out wx) ?_
          simp only [Act.put, List.setIfInBounds_toArray, List.set_cons_zero, List.set_cons_succ]
          refine wpT_is (fun _ => Below.refl _ _) rfl (fun wx hC hS => by go_simp <;> rfl) ?_
          simp only [Act.put, List.setIfInBounds_toArray, List.set_cons_zero, List.set_cons_succ]
          refine wpT_is (fun _ => Below.refl _ _) rfl (fun wx hC hS => by go_simp <;> rfl) ?_
          simp only [Act.put, List.setIfInBounds_toArray, List.set_cons_zero, List.set_cons_succ]
          refine wpT_is (fun _ => Below.refl _ _) rfl (fun wx hC hS => by go_simp <;> rfl) ?_
          simp only [Act.put, List.setIfInBounds_toArray, List.set_cons_zero, List.set_cons_succ]
          refine wpT_is (fun _ => Below.refl _ _) rfl (fun wx hC hS => by have e0 := (HC9.out wx hC _).trans c0; have e1 := (HC9.out wx hC _).trans c1; have e2 := (HC9.out wx hC _).trans c2; have e3 := (HC9.out wx hC _).trans c3; have e4 := (HC9.out wx hC _).trans c4; go_simp <;> rfl) ?_
          simp only [Act.put, List.setIfInBounds_toArray, List.set_cons_zero, List.set_cons_succ]
          refine wpT_is (fun _ => Below.refl _ _) rfl (fun wx hC hS => by go_simp <;> rfl) ?_
          simp only [Act.put, List.setIfInBounds_toArray, List.set_cons_zero, List.set_cons_succ]
          refine wpT_nil fun wb hbb _ => ?_
          have hbe : Below w10.heap.size w10 wb := hbr.trans ((hba.trans (hbb.mono hba.size)).mono hbr.size)
          clear HC9 hka hba hbb HO hx9 d0 d1 d2 d3 d4 c0 c1 c2 c3 c4
          go_wp2_with fail
          go_roundw
          case rel => exact ⟨k + 1, by omega, by go_num, hbe⟩
          case measure => simp [intOf]; omega
      · obtain rfl : k = xs.length := by omega
        go_wp2_with fail
        go_ret
        exact ⟨rfl, h010.trans (hbr.mono h010.size)⟩

theorem rparses_any (w : World) (A : Nat → Addr) (hE : Errs w A) (p : Option Addr) (l : List UInt8) (c : Nat) (hs : Sl w w.heap.size p l) (hc : l.length ≤ c) :
    Calls Tryd.prog 3 #[.slice p l.length c] w fun e w' => e = .returned (.bool true) ∧ Below w.heap.size w w' := by
  by_cases h : l.length ≤ 400
  · exact rparses_near w A hE p l c hs hc h
  · exact rparses_far w A hE p l c (by omega)
end Go.Proofs.YtlndejanojgjlaaDoor
