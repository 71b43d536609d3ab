/- The contracts of tag.Parse and redlineref03.Parse: the tag with which bytes begin. Conditions: fewer than 2^46 bytes; where an error is answered, the errors' variables hold what the program's text lays. -/
import Derived.Test.YtlndejanojgjlaaDoorProg
import Derived.Test.YtlndejanojgjlaaDoorMem
import Derived.Test.YtlndejanojgjlaaDoorVscan
import Derived.Test.YtlndejanojgjlaaDoorVparse
import Derived.Test.YtlndejanojgjlaaDoorTag
import Derived.Test.YtlndejanojgjlaaDoorRet
import Derived.Deep.QuietTactic
import Derived.BigQuiet
import Derived.RegionTactic
import Derived.ChangeAlike
namespace Go.Proofs.YtlndejanojgjlaaDoor
open Go.RowKit

/-- What a tag's number is parsed as: number, kind, size, the error's number. -/
def tagOf (n s b : Nat) : Nat × Nat × Nat × Nat :=
  if b ≠ 0 then (0, 0, 0, b) else if 4294967296 ≤ n then (0, 0, 0, 5) else if tcheck ((n : Int) / 8) ((n : Int) % 8) ≠ 0 then (0, 0, 0, tcheck ((n : Int) / 8) ((n : Int) % 8)) else (n / 8, n % 8, s, 0)
/-- The tag with which bytes begin. -/
def tparse (l : List UInt8) : Nat × Nat × Nat × Nat := tagOf (vparse l).1 (vparse l).2.1 (vparse l).2.2

set_option maxRecDepth 100000 in
set_option maxHeartbeats 1000000 in
theorem refTagParse_any (w : World) (p : Option Addr) (l : List UInt8) (c B : Nat) (hl : l.length ≤ 70368744177664) (hs : Sl w B p l) :
    Calls Tryd.prog 23 #[.slice p l.length c] w fun e w' =>
      e = .returned (.tuple #[.int .i64 ((tparse l).1 : Int), .int .i64 ((tparse l).2.1 : Int), .int .i64 ((tparse l).2.2.1 : Int), .int .i64 ((tparse l).2.2.2 : Int)]) ∧ w = w' := by
  have HP := vRefParse_any w p l c B hl hs
  obtain ⟨R, hR⟩ : ∃ R, R = tparse l := ⟨_, rfl⟩
  rw [← hR]
  unfold tparse at hR
  generalize vparse l = V at HP hR
  obtain ⟨n, s, b⟩ := V
  simp only at HP hR
  unfold tagOf at hR
  go_enter Tryd.func23, Tryd.ntmps23
  by_cases hb : b = 0
  · subst hb
    rw [if_neg (by omega)] at hR
    by_cases hn : 4294967296 ≤ n
    · rw [if_pos hn] at hR
      have hn' : (4294967296 : Int) ≤ (n : Int) := by omega
      have H4 := Lib.hid hR
      clear hn hR
      go_wp2_with fail
      refine HP.mono ?_
      rintro e w1 ⟨rfl, rfl⟩
      go_wp2_with fail
      refine bodyPost_ret (results_tmp4 rfl _ _ _) rfl ?_
      rw [H4.out]
      exact ⟨rfl, rfl⟩
    · rw [if_neg hn] at hR
      have hn' : (n : Int) < 4294967296 := by omega
      by_cases h8 : n < 8
      · have hc5 : tcheck ((n : Int) / 8) ((n : Int) % 8) = 5 := by unfold tcheck; rw [if_pos (by omega)]
        rw [if_pos (by rw [hc5]; decide), hc5] at hR
        have H4 := Lib.hid hR
        have h8' : (n : Int) < 8 := by omega
        clear hn hR hc5 h8
        go_wp2_with fail
        refine HP.mono ?_
        rintro e w1 ⟨rfl, rfl⟩
        go_wp2_with fail
        refine bodyPost_ret (results_tmp4 rfl _ _ _) rfl ?_
        rw [H4.out]
        exact ⟨rfl, rfl⟩
      · have h8' : (8 : Int) ≤ (n : Int) := by omega
        have HC := refCheck_any w ((n : Int) / 8) ((n : Int) % 8)
        generalize hT : tcheck ((n : Int) / 8) ((n : Int) % 8) = T at HC hR
        clear hT hn h8
        obtain ⟨z, hz⟩ : ∃ z : Int, z = (n : Int) := ⟨_, rfl⟩
        rw [← hz] at HP HC hn' h8'
        have E1 := Lib.hid (show z / 8 = ((n / 8 : Nat) : Int) by omega)
        have E2 := Lib.hid (show z % 8 = ((n % 8 : Nat) : Int) by omega)
        have hz0 : 0 ≤ z := by omega
        clear hz
        by_cases hT0 : T = 0
        · subst hT0
          rw [if_neg (by omega)] at hR
          have H4 := Lib.hid hR
          clear hR
          go_wp2_with fail
          refine HP.mono ?_
          rintro e w1 ⟨rfl, rfl⟩
          go_wp2_with fail
          refine HC.mono ?_
          rintro e w1 ⟨rfl, rfl⟩
          go_wp2_with fail
          refine bodyPost_ret (results_tmp4 rfl _ _ _) rfl ?_
          rw [H4.out]
          refine ⟨?_, rfl⟩
          show _ = Ending.returned (.tuple #[.int .i64 ((n / 8 : Nat) : Int), .int .i64 ((n % 8 : Nat) : Int), .int .i64 (s : Int), .int .i64 0])
          rw [← E1.out, ← E2.out]
          rfl
        · rw [if_pos hT0] at hR
          have H4 := Lib.hid hR
          have hT1 : (T : Int) ≠ 0 := by omega
          clear hR hT0
          go_wp2_with fail
          refine HP.mono ?_
          rintro e w1 ⟨rfl, rfl⟩
          go_wp2_with fail
          refine HC.mono ?_
          rintro e w1 ⟨rfl, rfl⟩
          go_wp2_with fail
          refine bodyPost_ret (results_tmp4 rfl _ _ _) rfl ?_
          rw [H4.out]
          exact ⟨rfl, rfl⟩
  · rw [if_pos hb] at hR
    have H4 := Lib.hid hR
    have hb1 : (b : Int) ≠ 0 := by omega
    clear hR hb
    go_wp2_with fail
    refine HP.mono ?_
    rintro e w1 ⟨rfl, rfl⟩
    go_wp2_with fail
    refine bodyPost_ret (results_tmp4 rfl _ _ _) rfl ?_
    rw [H4.out]
    exact ⟨rfl, rfl⟩

set_option maxRecDepth 100000 in
set_option maxHeartbeats 1000000 in
theorem tagParse_any (w : World) (A : Nat → Addr) (p : Option Addr) (l : List UInt8) (c B : Nat) (hB : B ≤ w.heap.size) (hl : l.length ≤ 70368744177664) (hc : l.length ≤ c) (hs : Sl w B p l) (hE : (tparse l).2.2.2 ≠ 0 → Errs w A) :
    Calls Tryd.prog 21 #[.slice p l.length c] w fun e w' =>
      e = .returned (.tuple #[tagV ((tparse l).1 : Int) ((tparse l).2.1 : Int), .int .i64 ((tparse l).2.2.1 : Int), errOf A (tparse l).2.2.2]) ∧ Below w.heap.size w w' := by
  obtain ⟨w1, hw1⟩ : ∃ w1, w1 = w.alloc (.cells #[.int .i64 0, .int .i64 0] 26) := ⟨_, rfl⟩
  have hb1 : Below w.heap.size w w1 := hw1 ▸ (Below.refl _ _).alloc (Nat.le_refl _) _
  have hk1 : Blk w1 w.heap.size 26 [.int .i64 0, .int .i64 0] := hw1 ▸ Blk.new w _ _
  have HP := vParse_any w1 A p l c B hl hc (hs.below (hb1.mono hB)) (fun h => (Errs.below (hE (by unfold tparse tagOf; rw [if_pos h]; exact h)) hb1).two)
  obtain ⟨R, hR⟩ : ∃ R, R = tparse l := ⟨_, rfl⟩
  rw [← hR] at hE ⊢
  unfold tparse at hR
  generalize vparse l = V at HP hR
  obtain ⟨n, s, b⟩ := V
  simp only at HP hR
  unfold tagOf at hR
  rw [hw1] at HP
  by_cases hb : b = 0
  · subst hb
    rw [show errOf A 0 = Value.nilIface from rfl] at HP
    rw [if_neg (by omega)] at hR
    by_cases hn : 4294967296 ≤ n
    · rw [if_pos hn] at hR
      have hn' : (4294967296 : Int) ≤ (n : Int) := by omega
      have e40 := (hE (by rw [hR]; decide)).three.tag
      subst hR
      clear hn
      go_enter Tryd.func21, Tryd.ntmps21
      go_wp2_with fail
      refine HP.mono ?_
      rintro e w2 ⟨rfl, m, rfl⟩
      have hlt := World.block_lt_of_cell? w ⟨_, 0, none⟩ e40
      have e4a : w1.cell? ⟨2, 0, none⟩ = some (errV A 4) := (hb1.cell (p := ⟨_, 0, none⟩) hlt).trans e40
      have hb2 := fun q => ((below_drewN hb1 q).setCell (p := ⟨w.heap.size, 0, none⟩) (Nat.le_refl _) (.int .i64 0)).setCell (p := ⟨w.heap.size, 1, none⟩) (Nat.le_refl _) (.int .i64 0)
      have hk2 := fun q => ((hk1.drewN q).set_ 0 (.int .i64 0)).set_ 1 (.int .i64 0)
      have e4b := fun q => ((hb2 q).cell (p := ⟨2, 0, none⟩) hlt).trans e40
      rw [hw1] at e4a
      simp only [hw1] at e4b hk2 hb2
      go_wp2_with fail
      go_region
      all_goals
        go_wp2_with fail
        refine bodyPost_ret (results_row2 rfl _ _ w.heap.size _ _ _ rfl (hk2 _) Tryd.underlying26 (by kernel_rfl)) rfl ⟨rfl, hb2 _⟩
    · rw [if_neg hn] at hR
      have HC := fun ws h => tagCheck_any ws A ((n : Int) / 8) ((n : Int) % 8) h
      generalize hT : tcheck ((n : Int) / 8) ((n : Int) % 8) = T at HC hR
      have hn' : (n : Int) < 4294967296 := by omega
      obtain ⟨z, hz⟩ : ∃ z : Int, z = (n : Int) := ⟨_, rfl⟩
      rw [← hz] at HP HC hn'
      have E1 := Lib.hid (show z / 8 = ((n / 8 : Nat) : Int) by omega)
      have E2 := Lib.hid (show z % 8 = ((n % 8 : Nat) : Int) by omega)
      have hz0 : 0 ≤ z := by omega
      clear hz hT hn
      unfold tagV at HC
      by_cases hT0 : T = 0
      · subst hT0
        rw [if_neg (by omega)] at hR
        have H4 := Lib.hid hR
        clear hR hE
        rw [show errOf A 0 = Value.nilIface from rfl] at HC
        go_enter Tryd.func21, Tryd.ntmps21
        go_wp2_with fail
        refine HP.mono ?_
        rintro e w2 ⟨rfl, m, rfl⟩
        have hk2 := ((hk1.drewN m).set_ 0 (.int .i64 (z / 8))).set_ 1 (.int .i64 (z % 8))
        have hb2 := ((below_drewN hb1 m).setCell (p := ⟨w.heap.size, 0, none⟩) (Nat.le_refl _) (.int .i64 (z / 8))).setCell (p := ⟨w.heap.size, 1, none⟩) (Nat.le_refl _) (.int .i64 (z % 8))
        simp only [List.set_cons_zero, List.set_cons_succ] at hk2
        rw [hw1] at hk2 hb2
        go_wp2_with fail
        refine (HC _ (fun h => absurd rfl h)).mono ?_
        rintro e w3 ⟨rfl, hb3⟩
        have hk3 := hk2.kept hb3
        have c0 := hk3.cell 0
        have c1 := hk3.cell 1
        simp only [List.getElem?_cons_zero, List.getElem?_cons_succ] at c0 c1
        have f0 := hk3.frozen 0
        have f1 := hk3.frozen 1
        have h03 := hb2.trans (hb3.mono hb2.size)
        clear hb2 hb3 hk2 HP HC
        have hk4 := (hk3.set_ 0 (.int .i64 (z / 8))).set_ 1 (.int .i64 (z % 8))
        have h04 := (h03.setCell (p := ⟨w.heap.size, 0, none⟩) (Nat.le_refl _) (.int .i64 (z / 8))).setCell (p := ⟨w.heap.size, 1, none⟩) (Nat.le_refl _) (.int .i64 (z % 8))
        go_wp2_with fail
        refine bodyPost_ret (results_row2 rfl _ _ w.heap.size _ _ _ rfl hk4 Tryd.underlying26 (by kernel_rfl)) rfl ⟨?_, h04⟩
        rw [H4.out]
        show _ = Ending.returned (.tuple #[.agg #[.int .i64 ((n / 8 : Nat) : Int), .int .i64 ((n % 8 : Nat) : Int)], .int .i64 (s : Int), .nilIface])
        rw [← E1.out, ← E2.out]
        rfl
      · rw [if_pos hT0] at hR
        obtain ⟨b, rfl⟩ := Nat.exists_eq_succ_of_ne_zero hT0
        have hE0 := (hE (by rw [hR]; exact hT0)).three
        have H4 := Lib.hid hR
        clear hR hE hT0
        rw [show errOf A b.succ = errV A b from rfl] at HC
        have hne := neq_errV A b
        go_enter Tryd.func21, Tryd.ntmps21
        go_wp2_with fail
        refine HP.mono ?_
        rintro e w2 ⟨rfl, m, rfl⟩
        have hk2 := ((hk1.drewN m).set_ 0 (.int .i64 (z / 8))).set_ 1 (.int .i64 (z % 8))
        simp only [List.set_cons_zero, List.set_cons_succ] at hk2
        have hb2 := ((below_drewN hb1 m).setCell (p := ⟨w.heap.size, 0, none⟩) (Nat.le_refl _) (.int .i64 (z / 8))).setCell (p := ⟨w.heap.size, 1, none⟩) (Nat.le_refl _) (.int .i64 (z % 8))
        have hE2 := hE0.below hb2
        rw [hw1] at hk2 hb2 hE2
        go_wp2_with fail
        refine (HC _ (fun _ => hE2)).mono ?_
        rintro e w3 ⟨rfl, hb3⟩
        have hk3 := hk2.kept hb3
        have c0 := hk3.cell 0
        have c1 := hk3.cell 1
        simp only [List.getElem?_cons_zero, List.getElem?_cons_succ] at c0 c1
        have f0 := hk3.frozen 0
        have f1 := hk3.frozen 1
        have h03 := hb2.trans (hb3.mono hb2.size)
        clear hb2 hb3 hk2 HP HC hE2
        have hk4 := (hk3.set_ 0 (.int .i64 0)).set_ 1 (.int .i64 0)
        have h04 := (h03.setCell (p := ⟨w.heap.size, 0, none⟩) (Nat.le_refl _) (.int .i64 0)).setCell (p := ⟨w.heap.size, 1, none⟩) (Nat.le_refl _) (.int .i64 0)
        go_wp2_with fail
        refine bodyPost_ret (results_row2 rfl _ _ w.heap.size _ _ _ rfl hk4 Tryd.underlying26 (by kernel_rfl)) rfl ⟨?_, h04⟩
        rw [H4.out]
        rfl
  · rw [if_pos hb] at hR
    obtain ⟨b, rfl⟩ := Nat.exists_eq_succ_of_ne_zero hb
    rw [show errOf A b.succ = errV A b from rfl] at HP
    have hne := neq_errV A b
    subst hR
    go_enter Tryd.func21, Tryd.ntmps21
    go_wp2_with fail
    refine HP.mono ?_
    rintro e w2 ⟨rfl, m, rfl⟩
    have hk2 := ((hk1.drewN m).set_ 0 (.int .i64 0)).set_ 1 (.int .i64 0)
    have hb2 := ((below_drewN hb1 m).setCell (p := ⟨w.heap.size, 0, none⟩) (Nat.le_refl _) (.int .i64 0)).setCell (p := ⟨w.heap.size, 1, none⟩) (Nat.le_refl _) (.int .i64 0)
    rw [hw1] at hk2 hb2
    go_wp2_with fail
    refine bodyPost_ret (results_row2 rfl _ _ w.heap.size _ _ _ rfl hk2 Tryd.underlying26 (by kernel_rfl)) rfl ⟨rfl, hb2⟩
end Go.Proofs.YtlndejanojgjlaaDoor
