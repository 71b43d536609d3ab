/- The walk of TagPuts: for every two numbers the answer is true, and nothing that was there turns. Condition: the errors' variables hold different pointers, as the program's text lays them. -/
import Derived.Test.YtkgmchfieagjmaaDoorProg
import Derived.Test.YtkgmchfieagjmaaDoorMem
import Derived.Test.YtkgmchfieagjmaaDoorNum
import Derived.Test.YtkgmchfieagjmaaDoorText
import Derived.Test.YtkgmchfieagjmaaDoorGrow
import Derived.Test.YtkgmchfieagjmaaDoorHolds
import Derived.Test.YtkgmchfieagjmaaDoorTparse
import Derived.Test.YtkgmchfieagjmaaDoorAlive03
import Derived.Laws.StructEq
import Derived.Deep.DeepCutAuto
namespace Go.Proofs.YtkgmchfieagjmaaDoor
open Go.RowKit

theorem tparse_put {n k : Int} (h : tcheck n k = 0) : ((tparse (vput (tword n k))).1 : Int) = n ∧ ((tparse (vput (tword n k))).2.1 : Int) = k ∧ (tparse (vput (tword n k))).2.2.1 = (vput (tword n k)).length ∧ (tparse (vput (tword n k))).2.2.2 = 0 := by
  have hlt := tword_lt h
  have heq := tword_eq h
  obtain ⟨h1, h2, h3⟩ := tcheck_zero h
  have hp := vparse_vput (tword n k) [] (by omega)
  rw [List.append_nil] at hp
  have e1 : ((tword n k : Nat) : Int) / 8 = n := by omega
  have e2 : ((tword n k : Nat) : Int) % 8 = k := by omega
  unfold tparse
  rw [hp]
  unfold tagOf
  simp only
  rw [if_neg (by omega), if_neg (by omega), e1, e2, if_neg (by omega)]
  exact ⟨by simp only; omega, by simp only; omega, rfl, rfl⟩

set_option maxRecDepth 100000 in
set_option maxHeartbeats 2000000 in
theorem tputs_ok (w : World) (A : Nat → Addr) (n k : Int) (h : tcheck n k = 0) :
    Calls Tryd.prog 4 #[.int .i64 n, .int .i64 k] w fun e w' => e = .returned (.bool true) ∧ Below w.heap.size w w' := by
  obtain ⟨V, hV⟩ : ∃ V, V = vput (tword n k) := ⟨_, rfl⟩
  obtain ⟨T1, T2, T3, T4⟩ := tparse_put h
  rw [← hV] at T1 T2 T3 T4
  have hten := vput_ten (tword n k) (by have := tword_lt h; omega)
  rw [← hV] at hten
  have HV := Lib.hid hV
  clear hV
  go_enter Tryd.func4, Tryd.ntmps4
  go_wp2_with fail
  refine (alive03_any w).mono ?_
  rintro e w1 ⟨rfl, hb1⟩
  obtain ⟨w2, hw2⟩ : ∃ w2, w2 = w1.alloc (.cells #[.int .i64 n, .int .i64 k] 26) := ⟨_, rfl⟩
  have hk2 : Blk w2 w1.heap.size 26 [.int .i64 n, .int .i64 k] := hw2 ▸ Blk.new w1 _ _
  have hb2 : Below w1.heap.size w1 w2 := hw2 ▸ (Below.refl _ _).alloc (Nat.le_refl _) _
  have h02 : Below w.heap.size w w2 := hb1.trans (hb2.mono hb1.size)
  have HC := refCheck_any w2 n k
  rw [h] at HC
  go_wp2_with fail
  rw [← hw2]
  refine HC.mono ?_
  rintro e w3 ⟨rfl, rfl⟩
  clear HC hw2
  have c0 := hk2.cell 0
  have c1 := hk2.cell 1
  simp only [List.getElem?_cons_zero, List.getElem?_cons_succ] at c0 c1
  have HP := tagPut_ok w2 n k h
  rw [← HV.out] at HP
  unfold tagV at HP
  go_wp2_with fail
  refine HP.mono ?_
  rintro e w3 ⟨v3, rfl, hown3, hb3⟩
  clear HP c0 c1
  obtain ⟨q3, c3, rfl, hsl3, hc3, _⟩ := own_sl hown3
  have hk3 := hk2.kept hb3
  have h03 := h02.trans (hb3.mono h02.size)
  go_wp2_with fail
  refine (num_nil w3).mono ?_
  rintro e w4 ⟨rfl, rfl⟩
  have c0 := hk3.cell 0
  have c1 := hk3.cell 1
  simp only [List.getElem?_cons_zero, List.getElem?_cons_succ] at c0 c1
  have HC := tagCheck_any w3 A n k (fun hh => absurd h hh)
  rw [h, show errOf A 0 = Value.nilIface from rfl] at HC
  unfold tagV at HC
  go_wp2_with fail
  refine HC.mono ?_
  rintro e w4 ⟨rfl, hb4⟩
  clear HC c0 c1
  have hk4 := hk3.kept hb4
  have h04 := h03.trans (hb4.mono h03.size)
  go_wp2_with fail
  refine (num_nil w4).mono ?_
  rintro e w5 ⟨rfl, rfl⟩
  have c0 := hk4.cell 0
  have c1 := hk4.cell 1
  simp only [List.getElem?_cons_zero, List.getElem?_cons_succ] at c0 c1
  have HS := tagSize_any w4 A n k (fun hh => absurd h hh)
  rw [if_pos h, ← HV.out] at HS
  unfold tagV at HS
  go_wp2_with fail
  refine HS.mono ?_
  rintro e w5 ⟨rfl, hb5⟩
  clear HS c0 c1
  have hk5 := hk4.kept hb5
  have h05 := h04.trans (hb5.mono h04.size)
  have hsl5 := (hsl3.below hb4).below (hb5.mono hb4.size)
  have h35 : w3.heap.size ≤ w5.heap.size := Nat.le_trans hb4.size hb5.size
  have HQ := tagParse_any w5 A q3 V c3 w3.heap.size h35 (by omega) hc3 hsl5 (fun hh => absurd T4 hh)
  rw [T1, T2, T3, T4, show errOf A 0 = Value.nilIface from rfl] at HQ
  unfold tagV at HQ
  go_wp2_with fail
  refine HQ.mono ?_
  rintro e w6 ⟨rfl, hb6⟩
  clear HQ
  have hk6 := hk5.kept hb6
  have h06 := h05.trans (hb6.mono h05.size)
  have hsl6 := hsl5.below (hb6.mono h35)
  obtain ⟨w7, hw7⟩ : ∃ w7, w7 = w6.alloc (.cells #[.int .i64 n, .int .i64 k] 26) := ⟨_, rfl⟩
  have hk7 : Blk w7 w6.heap.size 26 [.int .i64 n, .int .i64 k] := hw7 ▸ Blk.new w6 _ _
  have hb7 : Below w6.heap.size w6 w7 := hw7 ▸ (Below.refl _ _).alloc (Nat.le_refl _) _
  have h07 : Below w.heap.size w w7 := h06.trans (hb7.mono h06.size)
  have hk57 := hk6.kept hb7
  have hsl7 := hsl6.below (hb7.mono (Nat.le_trans h35 hb6.size))
  have h37 : w3.heap.size ≤ w7.heap.size := Nat.le_trans h35 (Nat.le_trans hb6.size hb7.size)
  have HR := fun wx => refTagPut_any wx n k h
  rw [← HV.out] at HR
  go_upto_region 11 with fail
  rw [← hw7]
  clear hw7 hb1 hb2 hb3 hb4 hb5 hb6 hb7 hk2 hk3 hk4 hk5 hk6 hsl3 hsl5 hsl6 hown3 T1 T2 T3 T4
  go_cut [4] (fun s4 wx => s4 = .bool true ∧ Below w7.heap.size w7 wx)
  case first =>
    refine wp_region_grow (Below w7.heap.size w7) (fun u u' => Below u.heap.size u u') [.is ?_, .is ?_, .is ?_, .is ?_, .of (Holds V), .is ?_, .is (.bool true), .is ?_, .is ?_, .is (.bool true), .is ?_, .is ?_, .is ?_, .is ?_, .is (.bool true), .is ?_, .is ?_, .is ?_, .is ?_, .is ?_, .is (.bool true), .is ?_, .is ?_] (by kernel_rfl) (by kernel_rfl) (fun u u' h hC => hC.trans (h.mono hC.size)) (by repeat (first | exact trivial | refine ⟨by first | exact stay_is | exact stay_holds _, ?_⟩)) ((Below.refl _ _).drew) ?h
    case h =>
      refine wpT_is (fun _ => Below.refl _ _) rfl (fun wx hC _ => by go_simp <;> rfl) ?_
      simp only [Act.put, List.setIfInBounds_toArray, List.set_cons_zero, List.set_cons_succ]
      refine wpT_is (fun _ => Below.refl _ _) rfl (fun wx hC _ => by have ex := (hsl7.below (hC.mono h37)).string c3; go_simp; rfl) ?_
      simp only [Act.put, List.setIfInBounds_toArray, List.set_cons_zero, List.set_cons_succ]
      iterate 2 (refine wpT_is (fun _ => Below.refl _ _) rfl (fun wx hC _ => by go_simp <;> rfl) ?_; simp only [Act.put, List.setIfInBounds_toArray, List.set_cons_zero, List.set_cons_succ])
      refine wpT_call rfl (fun wx hC _ => by go_simp; exact ⟨rfl, rfl⟩) (fun wx hC _ => ?k2) (fun v1 => ?_)
      case k2 => exact (HR wx).mono fun e w' h => holds_of rfl h
      simp only [Act.put, List.setIfInBounds_toArray, List.set_cons_zero, List.set_cons_succ]
      refine wpT_is (fun _ => Below.refl _ _) rfl (fun wx hC hS => by obtain ⟨q5, c5, rfl, hs5⟩ : Holds V v1 wx := hS.get (List.mem_cons_self) rfl; have ex := hs5.string c5; go_simp; rfl) ?_
      simp only [Act.put, List.setIfInBounds_toArray, List.set_cons_zero, List.set_cons_succ]
      iterate 6 (refine wpT_is (fun _ => Below.refl _ _) rfl (fun wx hC _ => by go_simp <;> rfl) ?_; simp only [Act.put, List.setIfInBounds_toArray, List.set_cons_zero, List.set_cons_succ])
      refine wpT_is (fun _ => Below.refl _ _) rfl (fun wx hC _ => by have hx := hk7.below hC hk7.lt; have c0 := hx.cell 0; have c1 := hx.cell 1; simp only [List.getElem?_cons_zero, List.getElem?_cons_succ] at c0 c1; go_simp; rfl) ?_
      simp only [Act.put, List.setIfInBounds_toArray, List.set_cons_zero, List.set_cons_succ]
      refine wpT_is (fun _ => Below.refl _ _) rfl (fun wx hC _ => by have hx := hk57.below hC hk57.lt; have c0 := hx.cell 0; have c1 := hx.cell 1; simp only [List.getElem?_cons_zero, List.getElem?_cons_succ] at c0 c1; go_simp; rfl) ?_
      simp only [Act.put, List.setIfInBounds_toArray, List.set_cons_zero, List.set_cons_succ]
      iterate 9 (refine wpT_is (fun _ => Below.refl _ _) rfl (fun wx hC _ => by go_simp <;> rfl) ?_; simp only [Act.put, List.setIfInBounds_toArray, List.set_cons_zero, List.set_cons_succ])
      refine wpT_nil fun wx hC _ => ?_
      go_wp2_with fail
      go_meet
      exact ⟨rfl, hC⟩
  case rest =>
    obtain ⟨rfl, hb8⟩ := hcut
    go_wp2_with fail
    go_ret
    exact ⟨rfl, h07.trans (hb8.mono h07.size)⟩

set_option maxRecDepth 100000 in
set_option maxHeartbeats 2000000 in
theorem tputs_bad (w : World) (A : Nat → Addr) (hE : Errs w A) (n k : Int) (h : tcheck n k ≠ 0) :
    Calls Tryd.prog 4 #[.int .i64 n, .int .i64 k] w fun e w' => e = .returned (.bool true) ∧ Below w.heap.size w w' := by
  have hle := tcheck_le n k
  obtain ⟨b, hb⟩ : ∃ b, b = tcheck n k := ⟨_, rfl⟩
  have HB := Lib.hid hb
  have hb0 : (b : Int) ≠ 0 := by omega
  have hb19 : b ≤ 19 := by omega
  clear hb hle
  go_enter Tryd.func4, Tryd.ntmps4
  go_wp2_with fail
  refine (alive03_any w).mono ?_
  rintro e w1 ⟨rfl, hb1⟩
  obtain ⟨w2, hw2⟩ : ∃ w2, w2 = w1.alloc (.cells #[.int .i64 n, .int .i64 k] 26) := ⟨_, rfl⟩
  have hk2 : Blk w2 w1.heap.size 26 [.int .i64 n, .int .i64 k] := hw2 ▸ Blk.new w1 _ _
  have hb2 : Below w1.heap.size w1 w2 := hw2 ▸ (Below.refl _ _).alloc (Nat.le_refl _) _
  have h02 : Below w.heap.size w w2 := hb1.trans (hb2.mono hb1.size)
  have HC := refCheck_any w2 n k
  rw [← HB.out] at HC
  go_wp2_with fail
  rw [← hw2]
  refine HC.mono ?_
  rintro e w3 ⟨rfl, rfl⟩
  clear HC hw2
  have c0 := hk2.cell 0
  have c1 := hk2.cell 1
  simp only [List.getElem?_cons_zero, List.getElem?_cons_succ] at c0 c1
  have HP := tagPut_bad w2 A n k h (hE.below h02).three
  rw [← HB.out] at HP
  unfold tagV at HP
  go_wp2_with fail
  refine HP.mono ?_
  rintro e w3 ⟨rfl, hb3⟩
  clear HP c0 c1
  have hk3 := hk2.kept hb3
  have h03 := h02.trans (hb3.mono h02.size)
  go_wp2_with fail
  refine (num_of w3 A (hE.below h03) b hb19).mono ?_
  rintro e w4 ⟨rfl, hb4⟩
  have hk4 := hk3.kept hb4
  have h04 := h03.trans (hb4.mono h03.size)
  have c0 := hk4.cell 0
  have c1 := hk4.cell 1
  simp only [List.getElem?_cons_zero, List.getElem?_cons_succ] at c0 c1
  have HC := tagCheck_any w4 A n k (fun _ => (hE.below h04).three)
  rw [← HB.out] at HC
  unfold tagV at HC
  go_wp2_with fail
  refine HC.mono ?_
  rintro e w5 ⟨rfl, hb5⟩
  clear HC c0 c1
  have hk5 := hk4.kept hb5
  have h05 := h04.trans (hb5.mono h04.size)
  go_wp2_with fail
  refine (num_of w5 A (hE.below h05) b hb19).mono ?_
  rintro e w6 ⟨rfl, hb6⟩
  have hk6 := hk5.kept hb6
  have h06 := h05.trans (hb6.mono h05.size)
  have c0 := hk6.cell 0
  have c1 := hk6.cell 1
  simp only [List.getElem?_cons_zero, List.getElem?_cons_succ] at c0 c1
  have HS := tagSize_any w6 A n k (fun _ => (hE.below h06).three)
  rw [if_neg h] at HS
  unfold tagV at HS
  go_wp2_with fail
  refine HS.mono ?_
  rintro e w7 ⟨rfl, hb7⟩
  go_wp2_with fail
  go_ret
  exact ⟨rfl, h06.trans (hb7.mono h06.size)⟩

theorem tputs_any (w : World) (A : Nat → Addr) (hE : Errs w A) (n k : Int) :
    Calls Tryd.prog 4 #[.int .i64 n, .int .i64 k] w fun e w' => e = .returned (.bool true) ∧ Below w.heap.size w w' := by
  by_cases h : tcheck n k = 0
  · exact tputs_ok w A n k h
  · exact tputs_bad w A hE n k h
end Go.Proofs.YtkgmchfieagjmaaDoor
