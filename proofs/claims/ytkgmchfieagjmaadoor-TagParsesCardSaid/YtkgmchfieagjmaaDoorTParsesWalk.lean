/- The walk of TagParses: for all bytes the answer is true, and nothing that was there turns. Condition: the errors' variables hold different pointers, as the program's text lays them. -/
import Derived.Test.YtkgmchfieagjmaaDoorProg
import Derived.Test.YtkgmchfieagjmaaDoorMem
import Derived.Test.YtkgmchfieagjmaaDoorBytes
import Derived.Test.YtkgmchfieagjmaaDoorKept
import Derived.Test.YtkgmchfieagjmaaDoorNum
import Derived.Test.YtkgmchfieagjmaaDoorTparse
import Derived.Test.YtkgmchfieagjmaaDoorAlive03
namespace Go.Proofs.YtkgmchfieagjmaaDoor
open Go.RowKit

theorem tparse_err (l : List UInt8) : (tparse l).2.2.2 ≤ 19 := by
  have h1 := vparse_err l
  have h2 := tcheck_le (((vparse l).1 : Int) / 8) (((vparse l).1 : Int) % 8)
  unfold tparse tagOf
  split
  · exact Nat.le_trans h1 (by decide)
  · split
    · simp
    · split
      · exact Nat.le_trans h2 (by decide)
      · simp

set_option maxRecDepth 100000 in
set_option maxHeartbeats 2000000 in
theorem tparses_any (w : World) (A : Nat → Addr) (hE : Errs w A) (p : Option Addr) (l : List UInt8) (c : Nat) (hs : Sl w w.heap.size p l) :
    Calls Tryd.prog 3 #[.slice p l.length c] w fun e w' => e = .returned (.bool true) ∧ Below w.heap.size w w' := by
  by_cases h300 : l.length ≤ 300
  · have h300' : ¬ 300 < l.length := by omega
    obtain ⟨R, hR⟩ : ∃ R, R = tparse l := ⟨_, rfl⟩
    have hR4 := tparse_err l
    rw [← hR] at hR4
    have HR := Lib.hid hR
    clear hR
    obtain ⟨n, k, s, b⟩ := R
    simp only at hR4
    go_enter Tryd.func3, Tryd.ntmps3
    go_wp2_with fail
    refine (alive03_any w).mono ?_
    rintro e w1 ⟨rfl, hb1⟩
    have hs1 := hs.below hb1
    go_wp2_with fail
    refine (bytes_any w1 p l c w.heap.size (by omega) hs1 hb1.size).mono ?_
    rintro e w2 ⟨rfl, hin, hb2⟩
    have hsin : Sl w2 (w1.heap.size + 1) (some ⟨w1.heap.size, 0, none⟩) l := Sl.of_blk hin (by omega) fun i x hx => by
      have hi : i < l.length := by
        rcases Nat.lt_or_ge i l.length with h | h
        · exact h
        · rw [List.getElem?_eq_none h] at hx; cases hx
      rw [List.getElem?_append_left (by simpa using hi), List.getElem?_map, hx]
      rfl
    have hlt2 := hin.lt
    have h02 : Below w.heap.size w w2 := hb1.trans (hb2.mono hb1.size)
    have HP := tagParse_any w2 A (some ⟨w1.heap.size, 0, none⟩) l (l.length + 6) (w1.heap.size + 1) hlt2 (by omega) (by omega) hsin (fun _ => hE.below h02)
    rw [← HR.out] at HP
    go_wp2_with fail
    refine HP.mono ?_
    rintro e w3 ⟨rfl, hb3⟩
    clear HP
    unfold tagV
    have h03 : Below w.heap.size w w3 := h02.trans (hb3.mono h02.size)
    obtain ⟨w4, hw4⟩ : ∃ w4, w4 = w3.alloc (.cells #[.int .i64 (n : Int), .int .i64 (k : Int)] 26) := ⟨_, rfl⟩
    have hk4 : Blk w4 w3.heap.size 26 [.int .i64 (n : Int), .int .i64 (k : Int)] := hw4 ▸ Blk.new w3 _ _
    have hb4 : Below w3.heap.size w3 w4 := hw4 ▸ (Below.refl _ _).alloc (Nat.le_refl _) _
    have h04 : Below w.heap.size w w4 := h03.trans (hb4.mono h03.size)
    have c0 := hk4.cell 0
    have c1 := hk4.cell 1
    simp only [List.getElem?_cons_zero, List.getElem?_cons_succ] at c0 c1
    have HQ := refTagParse_any w4 p l c w.heap.size (by omega) (hs.below h04)
    rw [← HR.out] at HQ
    go_wp2_with fail
    rw [← hw4]
    refine HQ.mono ?_
    rintro e w5 ⟨rfl, rfl⟩
    clear HQ hw4
    have hin4 := (hin.kept hb3).kept hb4
    go_wp2_with fail
    refine (num_of w4 A (hE.below h04) b hR4).mono ?_
    rintro e w5 ⟨rfl, hb5⟩
    have h05 := h04.trans (hb5.mono h04.size)
    go_wp2_with fail
    refine (kept_any w5 w1.heap.size p l c w.heap.size (by omega) (hs.below h05) (hin4.kept hb5)).mono ?_
    rintro e w6 ⟨rfl, rfl⟩
    go_wp2_with fail
    go_ret
    exact ⟨rfl, h05⟩
  · have h300' : 300 < l.length := by omega
    go_enter Tryd.func3, Tryd.ntmps3
    go_wp2_with fail
    refine (alive03_any w).mono ?_
    rintro e w1 ⟨rfl, hb1⟩
    go_wp2_with fail
    go_ret
    exact ⟨rfl, hb1⟩
end Go.Proofs.YtkgmchfieagjmaaDoor
