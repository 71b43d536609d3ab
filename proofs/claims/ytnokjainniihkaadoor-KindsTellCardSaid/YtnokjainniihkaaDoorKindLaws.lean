/- The walks of KindsTell, KindsFit and KindsBack: for every input the answer is true, and nothing that was there turns. Condition: the table of the kinds holds what the program lays (TabK). -/
import Derived.Test.YtnokjainniihkaaDoorKindProg
import Derived.Test.YtnokjainniihkaaDoorKindOf
import Derived.Test.YtnokjainniihkaaDoorKindRef
namespace Go.Proofs.YtnokjainniihkaaDoor
open Go.RowKit

set_option maxRecDepth 100000 in
theorem alive10_any (w : World) (hT : TabK w) : Tells 6 w #[] (.bool true) := by
  unfold Tells
  have HO := kOf_any w hT [115, 105, 110, 116, 51, 50]
  have e : kfind [115, 105, 110, 116, 51, 50] 16 = 7 := by decide +kernel
  rw [e] at HO
  have HO1 : Hid (Calls Tryd.prog 7 #[.string (str [115, 105, 110, 116, 51, 50])] w fun e w' => e = .returned (.tuple #[.int .i64 7, .bool true]) ∧ w = w') := Lib.hid HO
  have HF := kFit_any w hT 7 3 (by omega)
  have HF1 : Hid (Calls Tryd.prog 17 #[.int .i64 7, .int .u64 3] w fun e w' => e = .returned (.int .u64 18446744073709551614) ∧ Below w.heap.size w w') := Lib.hid HF
  have HM : Hid (∀ u, TabK u → Calls Tryd.prog 10 #[.int .i64 7] u fun e w' => e = .returned (.string (str [115, 105, 110, 116, 51, 50])) ∧ Below u.heap.size u w') := Lib.hid (fun u hu => kName_any u hu 7)
  have HT := Lib.hid hT
  have hs := str_toList
  have hw : wrap64 18446744073709551614 = -2 := by decide +kernel
  clear hT HO e HF
  go_enter Tryd.func6, Tryd.ntmps6
  go_wp2_with fail
  refine HO1.out.mono ?_
  rintro e w1 ⟨rfl, rfl⟩
  go_wp2_with fail
  refine HF1.out.mono ?_
  rintro e w1 ⟨rfl, hb⟩
  have HT1 := Lib.hid (HT.out.below hb)
  go_wp2_with fail
  refine (HM.out w1 HT1.out).mono ?_
  rintro e w2 ⟨rfl, hb2⟩
  go_wp2_with fail
  go_ret
  exact ⟨rfl, hb.trans (hb2.mono hb.size)⟩

set_option maxRecDepth 100000 in
set_option maxHeartbeats 2000000 in
theorem ktell_law (w : World) (hT : TabK w) (z : Int) (l : List UInt8) : Tells 3 w #[.int .i64 z, .string (str l)] (.bool true) := by
  unfold Tells
  have HT := Lib.hid hT
  have HAL := Lib.hid (alive10_any w hT)
  have hz : (str l).size = l.length := strSize l
  by_cases hl : l.length ≤ 100
  · have hl' : ¬ (100 : Int) < (l.length : Int) := by omega
    have HO := Lib.hid (fun u (hu : TabK u) => kOf_any u hu l)
    have HK := Lib.hid (fun k (h1 : 1 ≤ k) => kfind_step l k h1)
    have HN := Lib.hid (fun u (hu : TabK u) => kName_any u hu z)
    have HR := Lib.hid (fun u => rName_any u z)
    have HU := Lib.hid (fun u (hu : TabK u) => kNumber_any u hu z)
    have HUR := Lib.hid (fun u => rNumber_any u z)
    have HP := Lib.hid (fun u (hu : TabK u) => kPacks_any u hu z)
    have HY := Lib.hid (fun u (hu : TabK u) => kKeys_any u hu z)
    have HYR := Lib.hid (fun u => rKeys_any u z)
    have HW := Lib.hid (fun u (hu : TabK u) => kWire_any u hu z)
    have HWR := Lib.hid (fun u => rWire_any u z)
    have HM : Hid (∀ (u : World) (k : Nat), 1 ≤ k → k ≤ 15 → Tells 8 u #[.int .i64 (k : Int)] (.string (str (kname k)))) := Lib.hid (fun u k h1 h2 => by
      have h := rName_any u (k : Int)
      rw [kn_at k h1 (by omega)] at h
      exact h)
    generalize kn z = i at *
    generalize kname i = nm at *
    generalize knumB i = nb at *
    generalize kkeyB i = kb at *
    generalize kwire i = kw at *
    obtain ⟨K, hK⟩ : ∃ K, kfind l 16 = K := ⟨_, rfl⟩
    rw [hK] at HO
    have HKK := Lib.hid hK
    clear hT hK hl
    go_enter Tryd.func3, Tryd.ntmps3
    go_wp2_with fail
    refine HAL.out.mono ?_
    rintro e w1 ⟨rfl, hb1⟩
    have HT1 := Lib.hid (HT.out.below hb1)
    go_wp2_with fail
    refine (HO.out w1 HT1.out).mono ?_
    rintro e w2 ⟨rfl, rfl⟩
    obtain ⟨V, hV⟩ : ∃ V, decide (0 < K) = V := ⟨_, rfl⟩
    rw [hV]
    have HV := Lib.hid hV
    clear hV
    go_wp2_with fail
    go_loopw [7, 8] (fun a b wr => ∃ k : Nat, 1 ≤ k ∧ k ≤ 16 ∧ b = .int .i64 (k : Int) ∧ a = .int .i64 (kfind l k : Int) ∧ Below w.heap.size w wr) (fun _ b _ => 16 - (intOf b).toNat)
    case atStart => exact ⟨1, by omega, by omega, rfl, rfl, hb1⟩
    case round =>
      obtain ⟨k, h1, h2, rfl, rfl, hbr⟩ := hrel
      by_cases hk : k ≤ 15
      · have hst := HK.out k h1
        have hsz := hbr.size
        by_cases he : kname k = l
        · rw [if_pos he] at hst
          have hq := HM.out wr k h1 hk
          rw [he] at hq
          have hq1 := Lib.hid hq
          have HST := Lib.hid hst
          clear hq he hst
          go_wp2_with fail
          refine hq1.out.mono ?_
          rintro e w3 ⟨rfl, hb3⟩
          go_wp2_with fail
          go_round
          case rel => exact ⟨k + 1, by omega, by omega, by go_num, by rw [HST.out], hbr.trans (hb3.mono hsz)⟩
          case measure => simp [intOf]; omega
        · rw [if_neg he] at hst
          have hq1 := Lib.hid (HM.out wr k h1 hk)
          have HST := Lib.hid hst
          have hne : ((str (kname k)).toList == (str l).toList) = false := by rw [str_toList, str_toList, beq_eq_false_iff_ne]; exact he
          clear he hst
          generalize kname k = m at *
          go_wp2_with fail
          refine hq1.out.mono ?_
          rintro e w3 ⟨rfl, hb3⟩
          go_wp2_with fail
          go_round
          case rel => exact ⟨k + 1, by omega, by omega, by go_num, by rw [HST.out], hbr.trans (hb3.mono hsz)⟩
          case measure => simp [intOf]; omega
      · obtain rfl : k = 16 := by omega
        rw [HKK.out]
        have hsz := hbr.size
        have HTr := Lib.hid (HT.out.below hbr)
        have hV := HV.out
        have hKV : (V = false ∧ K = 0) ∨ (V = true ∧ 0 < K) := by
          rcases Nat.eq_zero_or_pos K with h | h
          · exact .inl ⟨by rw [← hV, h]; rfl, h⟩
          · exact .inr ⟨by rw [← hV]; exact decide_eq_true h, h⟩
        clear hV HV hk h1 h2 HKK HK HM HO HT1 HAL
        rcases hKV with ⟨rfl, rfl⟩ | ⟨rfl, hK0⟩
        all_goals
          go_wp2_with fail
          refine (HUR.out wr).mono ?_
          rintro e w3 ⟨rfl, rfl⟩
          go_wp2_with fail
          refine (HN.out wr HTr.out).mono ?_
          rintro e w3 ⟨rfl, g3⟩
          have HT3 := Lib.hid (HTr.out.below g3)
          go_wp2_with fail
          refine (HR.out w3).mono ?_
          rintro e w4 ⟨rfl, g4⟩
          have HT4 := Lib.hid (HT3.out.below g4)
          go_wp2_with fail
          refine (HU.out w4 HT4.out).mono ?_
          rintro e w5 ⟨rfl, g5⟩
          have HT5 := Lib.hid (HT4.out.below g5)
          go_wp2_with fail
          refine (HP.out w5 HT5.out).mono ?_
          rintro e w6 ⟨rfl, g6⟩
          have HT6 := Lib.hid (HT5.out.below g6)
          go_wp2_with fail
          refine (HY.out w6 HT6.out).mono ?_
          rintro e w7 ⟨rfl, g7⟩
          have HT7 := Lib.hid (HT6.out.below g7)
          go_wp2_with fail
          refine (HYR.out w7).mono ?_
          rintro e w8 ⟨rfl, rfl⟩
          go_wp2_with fail
          refine (HW.out w7 HT7.out).mono ?_
          rintro e w8 ⟨rfl, g8⟩
          go_wp2_with fail
          refine (HWR.out w8).mono ?_
          rintro e w9 ⟨rfl, rfl⟩
          go_wp2_with fail
          go_ret
          have b3 := hbr.trans (g3.mono hbr.size)
          have b4 := b3.trans (g4.mono b3.size)
          have b5 := b4.trans (g5.mono b4.size)
          have b6 := b5.trans (g6.mono b5.size)
          have b7 := b6.trans (g7.mono b6.size)
          have b8 := b7.trans (g8.mono b7.size)
          exact ⟨rfl, b8⟩
  · have hl' : (100 : Int) < (l.length : Int) := by omega
    clear hT hl
    go_enter Tryd.func3, Tryd.ntmps3
    go_wp2_with fail
    refine HAL.out.mono ?_
    rintro e w1 ⟨rfl, hb1⟩
    go_wp2_with fail
    go_ret
    exact ⟨rfl, hb1⟩

set_option maxRecDepth 100000 in
theorem kfit_law (w : World) (hT : TabK w) (z : Int) (n : Nat) (hn : n < 18446744073709551616) : Tells 4 w #[.int .i64 z, .int .u64 (n : Int)] (.bool true) := by
  unfold Tells
  have HT := Lib.hid hT
  have HAL := Lib.hid (alive10_any w hT)
  have HF := Lib.hid (fun u (hu : TabK u) => kFit_any u hu z n hn)
  have HFR := Lib.hid (fun u => rFit_any u z n hn)
  have HB := Lib.hid (fun u (hu : TabK u) => kBack_any u hu z n hn)
  have HBR := Lib.hid (fun u => rBack_any u z n hn)
  have HR := Lib.hid (fun u (hu : TabK u) => kRight_any u hu z n hn)
  have HRR := Lib.hid (fun u => rRight_any u z n hn)
  generalize kn z = i at *
  generalize kfit i n = f at *
  generalize kback i n = b at *
  generalize krightB i n = r at *
  clear hT hn
  go_enter Tryd.func4, Tryd.ntmps4
  go_wp2_with fail
  refine HAL.out.mono ?_
  rintro e w1 ⟨rfl, g1⟩
  have HT1 := Lib.hid (HT.out.below g1)
  go_wp2_with fail
  refine (HF.out w1 HT1.out).mono ?_
  rintro e w2 ⟨rfl, g2⟩
  have HT2 := Lib.hid (HT1.out.below g2)
  go_wp2_with fail
  refine (HFR.out w2).mono ?_
  rintro e w3 ⟨rfl, rfl⟩
  go_wp2_with fail
  refine (HB.out w2 HT2.out).mono ?_
  rintro e w3 ⟨rfl, g3⟩
  have HT3 := Lib.hid (HT2.out.below g3)
  go_wp2_with fail
  refine (HBR.out w3).mono ?_
  rintro e w4 ⟨rfl, rfl⟩
  go_wp2_with fail
  refine (HR.out w3 HT3.out).mono ?_
  rintro e w4 ⟨rfl, g4⟩
  go_wp2_with fail
  refine (HRR.out w4).mono ?_
  rintro e w5 ⟨rfl, rfl⟩
  go_wp2_with fail
  go_ret
  have b2 := g1.trans (g2.mono g1.size)
  have b3 := b2.trans (g3.mono b2.size)
  have b4 := b3.trans (g4.mono b3.size)
  exact ⟨rfl, b4⟩

set_option maxRecDepth 100000 in
set_option maxHeartbeats 2000000 in
theorem kback_law (w : World) (hT : TabK w) (z : Int) (n : Nat) (hn : n < 18446744073709551616) : Tells 5 w #[.int .i64 z, .int .u64 (n : Int)] (.bool true) := by
  unfold Tells
  have HT := Lib.hid hT
  have HAL := Lib.hid (alive10_any w hT)
  have HN := kNumber_any
  have HU := Lib.hid (fun u (hu : TabK u) => kNumber_any u hu z)
  have HF := Lib.hid (fun u (hu : TabK u) => kFit_any u hu z n hn)
  have HB := Lib.hid (fun u (hu : TabK u) => kBack_any u hu z n hn)
  have HR := Lib.hid (fun u (hu : TabK u) => kRight_any u hu z n hn)
  clear HN
  rcases hB : knumB (kn z) with _ | _
  · obtain ⟨e1, e2, e3⟩ := kright_num (kn z) n hB
    rw [e1] at HR
    rw [e2] at HF
    rw [e3] at HB
    rw [hB] at HU
    clear e1 e2 e3 hB hn hT
    go_enter Tryd.func5, Tryd.ntmps5
    go_wp2_with fail
    refine HAL.out.mono ?_
    rintro e w1 ⟨rfl, g1⟩
    have HT1 := Lib.hid (HT.out.below g1)
    go_wp2_with fail
    refine (HU.out w1 HT1.out).mono ?_
    rintro e w2 ⟨rfl, g2⟩
    have HT2 := Lib.hid (HT1.out.below g2)
    go_wp2_with fail
    refine (HR.out w2 HT2.out).mono ?_
    rintro e w3 ⟨rfl, g3⟩
    have HT3 := Lib.hid (HT2.out.below g3)
    go_wp2_with fail
    refine (HF.out w3 HT3.out).mono ?_
    rintro e w4 ⟨rfl, g4⟩
    have HT4 := Lib.hid (HT3.out.below g4)
    go_wp2_with fail
    refine (HB.out w4 HT4.out).mono ?_
    rintro e w5 ⟨rfl, g5⟩
    go_wp2_with fail
    go_ret
    have b2 := g1.trans (g2.mono g1.size)
    have b3 := b2.trans (g3.mono b2.size)
    have b4 := b3.trans (g4.mono b3.size)
    have b5 := b4.trans (g5.mono b4.size)
    exact ⟨rfl, b5⟩
  · rw [hB] at HU
    have hx := kfit_lt (kn z) n hn
    have HXR := Lib.hid (fun u (hu : TabK u) => by have h := kRight_any u hu z _ hx; rw [kright_fit (kn z) n hB] at h; exact h)
    have HXB := Lib.hid (fun u (hu : TabK u) => kBack_any u hu z _ hx)
    have HXF := Lib.hid (fun u (hu : TabK u) => by have h := kFit_any u hu z _ (kback_lt (kn z) _ hx); rw [kfit_back (kn z) _ hB hx (kright_fit (kn z) n hB)] at h; exact h)
    have HW := Lib.hid (fun u (hu : TabK u) => kWire_any u hu z)
    rcases hr : krightB (kn z) n with _ | _
    · rw [hr] at HR
      clear hr hB hx hn hT HB HW
      generalize kn z = i at *
      generalize kfit i n = f at *
      generalize kback i f = b at *
      go_enter Tryd.func5, Tryd.ntmps5
      go_wp2_with fail
      refine HAL.out.mono ?_
      rintro e w1 ⟨rfl, g1⟩
      have HT1 := Lib.hid (HT.out.below g1)
      go_wp2_with fail
      refine (HU.out w1 HT1.out).mono ?_
      rintro e w2 ⟨rfl, g2⟩
      have HT2 := Lib.hid (HT1.out.below g2)
      go_wp2_with fail
      refine (HF.out w2 HT2.out).mono ?_
      rintro e w3 ⟨rfl, g3⟩
      have HT3 := Lib.hid (HT2.out.below g3)
      go_wp2_with fail
      refine (HXR.out w3 HT3.out).mono ?_
      rintro e w4 ⟨rfl, g4⟩
      have HT4 := Lib.hid (HT3.out.below g4)
      go_wp2_with fail
      refine (HXB.out w4 HT4.out).mono ?_
      rintro e w5 ⟨rfl, g5⟩
      have HT5 := Lib.hid (HT4.out.below g5)
      go_wp2_with fail
      refine (HXF.out w5 HT5.out).mono ?_
      rintro e w6 ⟨rfl, g6⟩
      have HT6 := Lib.hid (HT5.out.below g6)
      go_wp2_with fail
      refine (HR.out w6 HT6.out).mono ?_
      rintro e w7 ⟨rfl, g7⟩
      go_wp2_with fail
      go_ret
      have b2 := g1.trans (g2.mono g1.size)
      have b3 := b2.trans (g3.mono b2.size)
      have b4 := b3.trans (g4.mono b3.size)
      have b5 := b4.trans (g5.mono b4.size)
      have b6 := b5.trans (g6.mono b5.size)
      have b7 := b6.trans (g7.mono b6.size)
      exact ⟨rfl, b7⟩
    · rw [hr] at HR
      have hb := kback_lt (kn z) n hn
      have HBF := Lib.hid (fun u (hu : TabK u) => by have h := kFit_any u hu z _ hb; rw [kfit_back (kn z) n hB hn hr] at h; exact h)
      have HBL := Lib.hid (fun hw => kback_32 (kn z) n hB hw hr)
      clear hr hB hx hn hT hb
      generalize kwire (kn z) = wi at *
      generalize kn z = i at *
      generalize kfit i n = f at *
      generalize kback i f = b at *
      generalize kback i n = c at *
      have hwi : (wi = 5 ∧ (c : Int) < 4294967296) ∨ ((wi != 5) = true) := by
        by_cases h : wi = 5
        · exact .inl ⟨h, by have := HBL.out h; omega⟩
        · exact .inr (bne_iff_ne.2 h)
      clear HBL
      go_enter Tryd.func5, Tryd.ntmps5
      go_wp2_with fail
      refine HAL.out.mono ?_
      rintro e w1 ⟨rfl, g1⟩
      have HT1 := Lib.hid (HT.out.below g1)
      go_wp2_with fail
      refine (HU.out w1 HT1.out).mono ?_
      rintro e w2 ⟨rfl, g2⟩
      have HT2 := Lib.hid (HT1.out.below g2)
      go_wp2_with fail
      refine (HF.out w2 HT2.out).mono ?_
      rintro e w3 ⟨rfl, g3⟩
      have HT3 := Lib.hid (HT2.out.below g3)
      go_wp2_with fail
      refine (HXR.out w3 HT3.out).mono ?_
      rintro e w4 ⟨rfl, g4⟩
      have HT4 := Lib.hid (HT3.out.below g4)
      go_wp2_with fail
      refine (HXB.out w4 HT4.out).mono ?_
      rintro e w5 ⟨rfl, g5⟩
      have HT5 := Lib.hid (HT4.out.below g5)
      go_wp2_with fail
      refine (HXF.out w5 HT5.out).mono ?_
      rintro e w6 ⟨rfl, g6⟩
      have HT6 := Lib.hid (HT5.out.below g6)
      go_wp2_with fail
      refine (HR.out w6 HT6.out).mono ?_
      rintro e w7 ⟨rfl, g7⟩
      have HT7 := Lib.hid (HT6.out.below g7)
      go_wp2_with fail
      refine (HB.out w7 HT7.out).mono ?_
      rintro e w8 ⟨rfl, g8⟩
      have HT8 := Lib.hid (HT7.out.below g8)
      go_wp2_with fail
      refine (HBF.out w8 HT8.out).mono ?_
      rintro e w9 ⟨rfl, g9⟩
      have HT9 := Lib.hid (HT8.out.below g9)
      go_wp2_with fail
      refine (HW.out w9 HT9.out).mono ?_
      rintro e w10 ⟨rfl, g10⟩
      have HT10 := Lib.hid (HT9.out.below g10)
      have b2 := g1.trans (g2.mono g1.size)
      have b3 := b2.trans (g3.mono b2.size)
      have b4 := b3.trans (g4.mono b3.size)
      have b5 := b4.trans (g5.mono b4.size)
      have b6 := b5.trans (g6.mono b5.size)
      have b7 := b6.trans (g7.mono b6.size)
      have b8 := b7.trans (g8.mono b7.size)
      have b9 := b8.trans (g9.mono b8.size)
      have b10 := b9.trans (g10.mono b9.size)
      rcases hwi with ⟨rfl, hc⟩ | hw5
      · go_wp2_with fail
        refine (HB.out w10 HT10.out).mono ?_
        rintro e w11 ⟨rfl, g11⟩
        go_wp2_with fail
        go_ret
        exact ⟨rfl, b10.trans (g11.mono b10.size)⟩
      · go_wp2_with fail
        go_ret
        exact ⟨rfl, b10⟩
end Go.Proofs.YtnokjainniihkaaDoor
