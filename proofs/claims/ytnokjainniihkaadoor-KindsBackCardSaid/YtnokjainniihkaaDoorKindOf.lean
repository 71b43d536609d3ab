/- kinds.Of and kinds.Right. Conditions: the table of the kinds holds what the program lays (TabK); numbers are of their types. -/
import Derived.Test.YtnokjainniihkaaDoorKindProg
namespace Go.Proofs.YtnokjainniihkaaDoor
open Go.RowKit

theorem beq_nat (a b : Nat) : ((a : Int) == (b : Int)) = decide (a = b) := by rw [Bool.eq_iff_iff]; simp; omega
set_option maxRecDepth 100000 in
theorem kOf_any (w : World) (hT : TabK w) (l : List UInt8) : Calls Tryd.prog 7 #[.string (str l)] w fun e w' => e = .returned (.tuple #[.int .i64 (kfind l 16 : Int), .bool (decide (0 < kfind l 16))]) ∧ w = w' := by
  have HN := Lib.hid (kfind_none l 16)
  have HI := Lib.hid (fun i h1 he h => kfind_is l i h1 he 16 h (by decide))
  have HC := Lib.hid hT.name
  generalize kfind l 16 = K at *
  obtain ⟨V, hV⟩ : ∃ V, decide (0 < K) = V := ⟨_, rfl⟩
  rw [hV]
  have HV := Lib.hid hV
  clear hT hV
  go_enter Tryd.func7, Tryd.ntmps7
  go_wp2_with fail
  go_loop [4] (fun i => ∃ k : Nat, 1 ≤ k ∧ k ≤ 16 ∧ i = .int .i64 (k : Int) ∧ Hid (∀ j, 1 ≤ j → j < k → kname j ≠ l)) (fun i => 16 - (intOf i).toNat)
  case atStart => exact ⟨1, by omega, by omega, rfl, Lib.hid (fun j h1 h2 => by omega)⟩
  case round =>
    obtain ⟨k, h1, h2, rfl, H⟩ := hrel
    by_cases hk : k ≤ 15
    · have c0 := HC.out k (by omega)
      by_cases he : kname k = l
      · have hK := HI.out k h1 he (by omega)
        rw [he] at c0
        clear he H HI HN
        subst hK
        have hV := HV.out
        rw [decide_eq_true (by omega)] at hV
        subst hV
        go_wp2_with fail
        go_ret2
        exact ⟨rfl, rfl⟩
      · have hne : ((str (kname k)).toList == (str l).toList) = false := by rw [str_toList, str_toList, beq_eq_false_iff_ne]; exact he
        have HS : Hid (∀ j, 1 ≤ j → j < k + 1 → kname j ≠ l) := Lib.hid (fun j a b => by
          by_cases e : j = k
          · rw [e]; exact he
          · exact H.out j a (by omega))
        clear he H
        generalize kname k = m at *
        go_wp2_with fail
        go_round
        case rel => exact ⟨k + 1, by omega, by omega, by go_num, HS⟩
        case measure => simp [intOf]; omega
    · obtain rfl : k = 16 := by omega
      have hK := HN.out H.out
      have hV := HV.out
      rw [hK, decide_eq_false (by omega)] at hV
      subst hK hV
      clear hk H
      go_wp2_with fail
      go_ret2
      exact ⟨rfl, rfl⟩

set_option maxRecDepth 100000 in
theorem kRight_any (w : World) (hT : TabK w) (z : Int) (n : Nat) (h : n < 18446744073709551616) : Tells 21 w #[.int .i64 z, .int .u64 (n : Int)] (.bool (krightB (kn z) n)) := by
  unfold Tells
  have H0 := kNumber_any w hT z
  have HT := Lib.hid hT
  rcases hB : knumB (kn z) with _ | _
  · rw [(kright_num (kn z) n hB).1]
    rw [hB] at H0
    have H := Lib.hid H0
    clear H0 hT hB h
    go_enter Tryd.func21, Tryd.ntmps21
    go_wp2_with fail
    refine H.out.mono ?_
    rintro e w1 ⟨rfl, hb⟩
    go_wp2_with fail
    go_ret
    exact ⟨rfl, hb⟩
  · rw [kright_iff (kn z) n hB h]
    rw [hB] at H0
    have H := Lib.hid H0
    have HB := Lib.hid (fun u (hu : TabK u) => kBack_any u hu z n h)
    have HF := Lib.hid (fun u (hu : TabK u) => kFit_any u hu z _ (kback_lt (kn z) n h))
    clear H0 hT hB h
    generalize kback (kn z) n = b at *
    generalize kfit (kn z) b = f at *
    go_enter Tryd.func21, Tryd.ntmps21
    go_wp2_with fail
    refine H.out.mono ?_
    rintro e w1 ⟨rfl, hb⟩
    have HT1 := Lib.hid (HT.out.below hb)
    go_wp2_with fail
    refine (HB.out w1 HT1.out).mono ?_
    rintro e w2 ⟨rfl, hb2⟩
    have HT2 := Lib.hid (HT1.out.below hb2)
    go_wp2_with fail
    refine (HF.out w2 HT2.out).mono ?_
    rintro e w3 ⟨rfl, hb3⟩
    have b2 := hb.trans (hb2.mono hb.size)
    have b3 := b2.trans (hb3.mono b2.size)
    go_wp2_with fail
    go_ret
    exact ⟨congrArg Ending.returned (congrArg Value.bool (beq_nat f n)), b3⟩
end Go.Proofs.YtnokjainniihkaaDoor
