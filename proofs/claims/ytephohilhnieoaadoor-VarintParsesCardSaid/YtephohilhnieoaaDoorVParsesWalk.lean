/- The walk of VarintParses: for all bytes the answer is true, and nothing that was there turns. Condition: the errors' variables hold different pointers, as the program's text lays them. -/
import Derived.Test.YtephohilhnieoaaDoorProg
import Derived.Test.YtephohilhnieoaaDoorMem
import Derived.Test.YtephohilhnieoaaDoorRow
import Derived.Test.YtephohilhnieoaaDoorBytes
import Derived.Test.YtephohilhnieoaaDoorKept
import Derived.Test.YtephohilhnieoaaDoorNum
import Derived.Test.YtephohilhnieoaaDoorVall
import Derived.Test.YtephohilhnieoaaDoorAlive02
namespace Go.Proofs.YtephohilhnieoaaDoor
open Go.RowKit

/-- The number of an error by its number. -/
theorem num_of (w : World) (A : Nat → Addr) (h : Errs w A) (b : Nat) (hb : b ≤ 19) :
    Calls Tryd.prog 11 #[errOf A b] w fun e w' => e = .returned (.int .i64 (b : Int)) ∧ Below w.heap.size w w' := by
  cases b with
  | zero => exact (num_nil w).mono fun e w' ⟨he, hw⟩ => ⟨he, hw ▸ Below.refl _ _⟩
  | succ b => exact (num_err w A h b (by omega)).mono fun e w' ⟨he, hw⟩ => ⟨by rw [he]; rfl, hw⟩
theorem vparse_err (l : List UInt8) : (vparse l).2.2 ≤ 4 := by
  unfold vparse
  split
  · exact Nat.le_refl _
  · split <;> simp
theorem vall_err (l : List UInt8) : (vall l).2 ≤ 4 := by
  induction hn : l.length using Nat.strongRecOn generalizing l with
  | _ n ih =>
    by_cases h0 : 0 < l.length
    · by_cases h : (vparse l).2.2 = 0
      · have hs := vparse_size l h
        have := ih _ (by rw [List.length_drop]; omega) (l.drop (vparse l).2.1) rfl
        rw [vall_step h0 h]
        unfold joinR
        split
        · simp
        · exact this
      · rw [vall_bad h0 h]
        exact vparse_err l
    · obtain rfl : l = [] := List.eq_nil_of_length_eq_zero (by omega)
      rw [vall_nil]
      simp
theorem vall_len (l : List UInt8) : (vall l).1.length ≤ l.length := by
  induction hn : l.length using Nat.strongRecOn generalizing l with
  | _ n ih =>
    by_cases h0 : 0 < l.length
    · by_cases h : (vparse l).2.2 = 0
      · have hs := vparse_size l h
        have := ih _ (by rw [List.length_drop]; omega) (l.drop (vparse l).2.1) rfl
        rw [List.length_drop] at this
        rw [vall_step h0 h]
        unfold joinR
        split
        · simp; omega
        · simp
      · rw [vall_bad h0 h]
        simp
    · obtain rfl : l = [] := List.eq_nil_of_length_eq_zero (by omega)
      rw [vall_nil]
      simp

set_option maxRecDepth 100000 in
set_option maxHeartbeats 2000000 in
theorem vparses_any (w : World) (A : Nat → Addr) (hE : Errs w A) (p : Option Addr) (l : List UInt8) (c : Nat) (hs : Sl w w.heap.size p l) (hc : l.length ≤ c) :
    Calls Tryd.prog 3 #[.slice p l.length c] w fun e w' => e = .returned (.bool true) ∧ Below w.heap.size w w' := by
  by_cases h400 : l.length ≤ 400
  · have h400' : ¬ 400 < l.length := by omega
    obtain ⟨R, hR⟩ : ∃ R, R = vparse l := ⟨_, rfl⟩
    obtain ⟨V, hV⟩ : ∃ V, V = vall l := ⟨_, rfl⟩
    have hR4 := vparse_err l
    have hV4 := vall_err l
    have hVl := vall_len l
    rw [← hR] at hR4
    rw [← hV] at hV4 hVl
    have HR := Lib.hid hR
    have HV := Lib.hid hV
    clear hR hV
    obtain ⟨n, s, b⟩ := R
    obtain ⟨ns, b2⟩ := V
    simp only at hR4 hV4 hVl
    go_enter Tryd.func3, Tryd.ntmps3
    go_wp2_with fail
    refine (alive02_any w).mono ?_
    rintro e w1 ⟨rfl, hb1⟩
    have hs1 := hs.below hb1
    go_wp2_with fail
    refine (bytes_any w1 p l c w.heap.size (by omega) hs1 hb1.size).mono ?_
    rintro e w2 ⟨rfl, hin, hb2⟩
    have hsin : Sl w2 (w1.heap.size + 1) (some ⟨w1.heap.size, 0, none⟩) l := Sl.of_blk hin (by omega) fun i x hx => by
      have hi : i < l.length := by
        rcases Nat.lt_or_ge i l.length with h | h
        · exact h
        · rw [List.getElem?_eq_none h] at hx; cases hx
      rw [List.getElem?_append_left (by simpa using hi), List.getElem?_map, hx]
      rfl
    have hlt2 := hin.lt
    have h02 : Below w.heap.size w w2 := hb1.trans (hb2.mono hb1.size)
    have hE2 := hE.below h02
    have HP := vParse_any w2 A (some ⟨w1.heap.size, 0, none⟩) l (l.length + 6) (w1.heap.size + 1) (by omega) (by omega) hsin (fun _ => hE2.two)
    rw [← HR.out] at HP
    go_wp2_with fail
    refine HP.mono ?_
    rintro e w3 ⟨rfl, n3, rfl⟩
    clear HP
    have hs3 : Sl (w2.drewN n3) w.heap.size p l := hs.below (below_drewN h02 n3)
    have HQ := vRefParse_any (w2.drewN n3) p l c w.heap.size (by omega) hs3
    rw [← HR.out] at HQ
    go_wp2_with fail
    refine HQ.mono ?_
    rintro e w3 ⟨rfl, rfl⟩
    clear HQ
    go_wp2_with fail
    refine (num_of (w2.drewN n3) A (hE.below (below_drewN h02 n3)) b (by omega)).mono ?_
    rintro e w4 ⟨rfl, hb4⟩
    have h23 : w2.heap.size = (w2.drewN n3).heap.size := rfl
    have h04 : Below w.heap.size w w4 := (below_drewN h02 n3).trans (hb4.mono h02.size)
    have hin4 : Blk w4 w1.heap.size 5 (l.map bv ++ List.replicate 6 (.int .u8 165)) := (hin.drewN n3).kept hb4
    have hsin4 : Sl w4 (w1.heap.size + 1) (some ⟨w1.heap.size, 0, none⟩) l := hsin.below ((below_drewN (Below.refl _ w2) n3).trans (hb4.mono hlt2))
    have HS := vAll_any w4 A (some ⟨w1.heap.size, 0, none⟩) l (l.length + 6) (w1.heap.size + 1) (by omega) (by omega) (by unfold maxLen; omega) hin4.lt hsin4 (fun _ w' hb' => ((hE.below h04).below hb').two)
    rw [← HV.out] at HS
    go_wp2_with fail
    refine HS.mono ?_
    rintro e w5 ⟨v5, rfl, hown5, hb5⟩
    clear HS
    have h05 := h04.trans (hb5.mono h04.size)
    have hs5 := hs.below h05
    have HT := vRefAll_any w5 p l c w.heap.size (by omega) hc h05.size hs5
    rw [← HV.out] at HT
    obtain ⟨q5, c5, rfl, hr5, hc5, _⟩ := own_rw hown5
    go_wp2_with fail
    refine HT.mono ?_
    rintro e w6 ⟨v6, rfl, hown6, hb6⟩
    clear HT
    have h06 := h05.trans (hb6.mono h05.size)
    obtain ⟨q6, c6, rfl, hr6, hc6, _⟩ := own_rw hown6
    have hr56 := (hr5.below hb6).more hb6.size
    go_wp2_with fail
    refine (same_any w6 q5 q6 ns c5 c6 w6.heap.size (by omega) hr56 hr6).mono ?_
    rintro e w7 ⟨rfl, n7, rfl⟩
    have h07 := below_drewN h06 n7
    go_wp2_with fail
    refine (num_of (w6.drewN n7) A (hE.below h07) b2 (by omega)).mono ?_
    rintro e w8 ⟨rfl, hb8⟩
    have h08 := h07.trans (hb8.mono h06.size)
    have hin8 : Blk w8 w1.heap.size 5 (l.map bv ++ List.replicate 6 (.int .u8 165)) := (((hin4.kept hb5).kept hb6).drewN n7).kept hb8
    go_wp2_with fail
    refine (kept_any w8 w1.heap.size p l c w.heap.size (by omega) (hs.below h08) hin8).mono ?_
    rintro e w9 ⟨rfl, rfl⟩
    go_wp2_with fail
    go_ret
    exact ⟨rfl, h08⟩
  · have h400' : 400 < l.length := by omega
    go_enter Tryd.func3, Tryd.ntmps3
    go_wp2_with fail
    refine (alive02_any w).mono ?_
    rintro e w1 ⟨rfl, hb1⟩
    go_wp2_with fail
    go_ret
    exact ⟨rfl, hb1⟩
end Go.Proofs.YtephohilhnieoaaDoor
