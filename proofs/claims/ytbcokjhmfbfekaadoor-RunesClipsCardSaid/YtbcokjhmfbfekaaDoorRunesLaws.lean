/- The walks of RunesRight, RunesClips and RunesParts: for all texts the answer is true, and nothing that was there turns. No condition. -/
import Derived.Test.YtbcokjhmfbfekaaDoorProg
import Derived.Test.YtbcokjhmfbfekaaDoorMem
import Derived.Test.YtbcokjhmfbfekaaDoorRow
import Derived.Test.YtbcokjhmfbfekaaDoorStrs
import Derived.Test.YtbcokjhmfbfekaaDoorRunesMath
import Derived.Test.YtbcokjhmfbfekaaDoorRunesRef
import Derived.Test.YtbcokjhmfbfekaaDoorRunesWalk
import Derived.Test.YtbcokjhmfbfekaaDoorRunesSay
import Derived.Test.YtbcokjhmfbfekaaDoorUtf
import Derived.Test.YtbcokjhmfbfekaaDoorRunes
namespace Go.Proofs.YtbcokjhmfbfekaaDoor
open Go.RowKit

theorem say_two : rrightB [195, 164] = true ∧ rcount [195, 164] = 1 := by decide +kernel
theorem say_one : rrightB [195] = false := by decide +kernel
theorem say_bad : rfault [97, 255] = 1 := by decide +kernel
set_option maxRecDepth 100000 in
theorem alive06_any (w : World) (hT : Tab w) : Calls Tryd.prog 6 #[] w fun e w' => e = .returned (.bool true) ∧ Below w.heap.size w w' := by
  have Tw := Lib.hid hT
  go_enter Tryd.func6, Tryd.ntmps6
  go_wp2_with fail
  refine (rRight_any w Tw.out [195, 164] (by decide)).mono ?_
  rintro e w1 ⟨he, h1⟩
  have Tw1 := Lib.hid (Tw.out.below h1)
  rw [say_two.1] at he
  subst he
  go_wp2_with fail
  refine (rCount_any w1 Tw1.out [195, 164] (by decide)).mono ?_
  rintro e w2 ⟨he, h2⟩
  have Tw2 := Lib.hid (Tw1.out.below h2)
  rw [say_two.2] at he
  subst he
  go_wp2_with fail
  refine (rRight_any w2 Tw2.out [195] (by decide)).mono ?_
  rintro e w3 ⟨he, h3⟩
  have Tw3 := Lib.hid (Tw2.out.below h3)
  rw [say_one] at he
  subst he
  go_wp2_with fail
  refine (rFault_any w3 Tw3.out [97, 255] (by decide)).mono ?_
  rintro e w4 ⟨he, h4⟩
  have Tw4 := Lib.hid (Tw3.out.below h4)
  rw [say_bad] at he
  subst he
  go_wp2_with fail
  go_ret
  have b2 := h1.trans (h2.mono h1.size)
  have b3 := b2.trans (h3.mono b2.size)
  exact ⟨rfl, b3.trans (h4.mono b3.size)⟩

theorem rwalk_end (l : List UInt8) : (rwalk 0 l)[rcount l]? = some (rend l) := by
  have h := rwalk_last l 0
  rw [List.getLast?_eq_getElem?, rwalk_length, Nat.add_sub_cancel, Nat.zero_add] at h
  exact h
set_option maxRecDepth 100000 in
set_option maxHeartbeats 2000000 in
theorem rright_in (w : World) (hT : Tab w) (l : List UInt8) (hl : l.length ≤ 300) :
    Calls Tryd.prog 3 #[.string (str l)] w fun e w' => e = .returned (.bool true) ∧ Below w.heap.size w w' := by
  have Tw := Lib.hid hT
  have hz : (str l).size = l.length := strSize l
  have hl' : ¬ 300 < l.length := by omega
  have hle := rend_le l
  have hcl := rcount_le l
  have HW := rwalk_length l 0
  have HE := rwalk_end l
  have HR := Lib.hid (fun u (hu : Tab u) => rRight_any u hu l (by omega))
  have HF := Lib.hid (fun u (hu : Tab u) => rFault_any u hu l (by omega))
  have HC := Lib.hid (fun u (hu : Tab u) => rCount_any u hu l (by omega))
  have HS := Lib.hid (fun u (hu : Tab u) => rSize_any u hu l)
  have HT := Lib.hid (fun u => refSize_any u l (by omega))
  have HWK := Lib.hid (refWalk_any)
  obtain ⟨r, hr⟩ : ∃ r, rend l = r := ⟨_, rfl⟩
  have hB : rrightB l = decide (r = l.length) := by unfold rrightB; rw [hr]
  have hF : rfault l = if r = l.length then -1 else (r : Int) := by unfold rfault; rw [hr]
  rw [hr] at hle hcl HE
  simp only [hB] at HR
  simp only [hF] at HF
  clear hB hF hr
  generalize rcount l = n at *
  generalize rsize l = z at *
  obtain ⟨xs, hxs⟩ : ∃ xs, rwalk 0 l = xs := ⟨_, rfl⟩
  rw [hxs] at HW HE
  have HXS := Lib.hid hxs
  have HWL := Lib.hid HW
  clear hxs HW
  go_enter Tryd.func3, Tryd.ntmps3
  go_wp2_with fail
  refine (alive06_any w Tw.out).mono ?_
  rintro e w1 ⟨rfl, hb1⟩
  have Tw1 := Lib.hid (Tw.out.below hb1)
  go_wp2_with fail
  refine (HWK.out w1 l (by omega)).mono ?_
  rintro e w2 ⟨v2, rfl, hown2, hb2⟩
  have Tw2 := Lib.hid (Tw1.out.below hb2)
  rw [HXS.out] at hown2
  obtain ⟨p2, c2, rfl, hrw2, hc2, _⟩ := own_rw hown2
  rw [HWL.out]
  rw [HWL.out] at hc2
  have hb02 := hb1.trans (hb2.mono hb1.size)
  obtain ⟨g, o, rfl, hgb, hcell⟩ := hrw2.at_ (i := n) (by rw [List.length_map, HWL.out]; omega)
  have hcl2 : w2.cell? ⟨g, o + n, none⟩ = some (.int .i64 (r : Int)) := by
    rw [hcell]
    obtain ⟨hn, hx⟩ := List.getElem?_eq_some_iff.1 HE
    rw [List.getElem_map, hx]
    rfl
  clear hcell hown2 HE
  by_cases hrl : r = l.length
  · subst hrl
    have HR2 := Lib.hid (fun u (hu : Tab u) => by have h := HR.out u hu; rw [decide_eq_true rfl] at h; exact h)
    have HF2 := Lib.hid (fun u (hu : Tab u) => by have h := HF.out u hu; rw [if_pos rfl] at h; exact h)
    clear HR HF
    go_wp2_with fail
    refine (HR2.out w2 Tw2.out).mono ?_
    rintro e w3 ⟨rfl, h3⟩
    have Tw3 := Lib.hid (Tw2.out.below h3)
    go_wp2_with fail
    refine (HF2.out w3 Tw3.out).mono ?_
    rintro e w4 ⟨rfl, h4⟩
    have Tw4 := Lib.hid (Tw3.out.below h4)
    go_wp2_with fail
    refine (HC.out w4 Tw4.out).mono ?_
    rintro e w5 ⟨rfl, h5⟩
    have Tw5 := Lib.hid (Tw4.out.below h5)
    go_wp2_with fail
    refine (HS.out w5 Tw5.out).mono ?_
    rintro e w6 ⟨rfl, h6⟩
    have Tw6 := Lib.hid (Tw5.out.below h6)
    go_wp2_with fail
    refine (HT.out w6).mono ?_
    rintro e w7 ⟨rfl, h7⟩
    have Tw7 := Lib.hid (Tw6.out.below h7)
    go_wp2_with fail
    go_ret
    have b3 := hb02.trans (h3.mono hb02.size)
    have b4 := b3.trans (h4.mono b3.size)
    have b5 := b4.trans (h5.mono b4.size)
    have b6 := b5.trans (h6.mono b5.size)
    exact ⟨rfl, b6.trans (h7.mono b6.size)⟩
  · have hrl' : r < l.length := by omega
    have HR2 := Lib.hid (fun u (hu : Tab u) => by have h := HR.out u hu; rw [decide_eq_false hrl] at h; exact h)
    have HF2 := Lib.hid (fun u (hu : Tab u) => by have h := HF.out u hu; rw [if_neg hrl] at h; exact h)
    clear HR HF
    go_wp2_with fail
    refine (HR2.out w2 Tw2.out).mono ?_
    rintro e w3 ⟨rfl, h3⟩
    have Tw3 := Lib.hid (Tw2.out.below h3)
    go_wp2_with fail
    refine (HF2.out w3 Tw3.out).mono ?_
    rintro e w4 ⟨rfl, h4⟩
    have Tw4 := Lib.hid (Tw3.out.below h4)
    go_wp2_with fail
    refine (HC.out w4 Tw4.out).mono ?_
    rintro e w5 ⟨rfl, h5⟩
    have Tw5 := Lib.hid (Tw4.out.below h5)
    go_wp2_with fail
    refine (HS.out w5 Tw5.out).mono ?_
    rintro e w6 ⟨rfl, h6⟩
    have Tw6 := Lib.hid (Tw5.out.below h6)
    go_wp2_with fail
    refine (HT.out w6).mono ?_
    rintro e w7 ⟨rfl, h7⟩
    have Tw7 := Lib.hid (Tw6.out.below h7)
    go_wp2_with fail
    go_ret
    have b3 := hb02.trans (h3.mono hb02.size)
    have b4 := b3.trans (h4.mono b3.size)
    have b5 := b4.trans (h5.mono b4.size)
    have b6 := b5.trans (h6.mono b5.size)
    exact ⟨rfl, b6.trans (h7.mono b6.size)⟩

set_option maxRecDepth 100000 in
theorem rright_law (w : World) (hT : Tab w) (l : List UInt8) :
    Calls Tryd.prog 3 #[.string (str l)] w fun e w' => e = .returned (.bool true) ∧ Below w.heap.size w w' := by
  have Tw := Lib.hid hT
  by_cases h : l.length ≤ 300
  · exact rright_in w hT l h
  · have h' : 300 < l.length := by omega
    have hz : (str l).size = l.length := strSize l
    go_enter Tryd.func3, Tryd.ntmps3
    go_wp2_with fail
    refine (alive06_any w Tw.out).mono ?_
    rintro e w1 ⟨rfl, hb1⟩
    have Tw1 := Lib.hid (Tw.out.below hb1)
    go_wp2_with fail
    go_ret
    exact ⟨rfl, hb1⟩

theorem rpick_snoc (most : Int) (q x : Nat) (xs : List Nat) : rpick most q (xs ++ [x]) = if (x : Int) ≤ most then x else rpick most q xs := by unfold rpick; rw [List.foldl_append]; rfl
set_option maxRecDepth 100000 in
set_option maxHeartbeats 2000000 in
theorem rclips_in (w : World) (hT : Tab w) (l : List UInt8) (most : Int) (hl : l.length ≤ 300) (lo : -9223372036854775808 ≤ most) (hi : most < 9223372036854775808) :
    Calls Tryd.prog 4 #[.string (str l), .int .i64 most] w fun e w' => e = .returned (.bool true) ∧ Below w.heap.size w w' := by
  have Tw := Lib.hid hT
  have hz : (str l).size = l.length := strSize l
  have hl' : ¬ 300 < l.length := by omega
  have HCL := Lib.hid (fun u (hu : Tab u) => rClip_any u hu l most (by omega) lo hi)
  have hpk := rpick_all l most
  have hin := rwalk_in l 0
  have HWK := Lib.hid (refWalk_any)
  obtain ⟨xs, hxs⟩ : ∃ xs, rwalk 0 l = xs := ⟨_, rfl⟩
  rw [hxs] at hpk hin
  have HXS := Lib.hid hxs
  have HPK := Lib.hid hpk
  have HIN := Lib.hid hin
  have HL := Lib.hid (show xs.length ≤ 1000 by rw [← hxs, rwalk_length]; have := rcount_le l; have := rend_le l; omega)
  clear hxs hpk hin
  go_enter Tryd.func4, Tryd.ntmps4
  go_wp2_with fail
  refine (alive06_any w Tw.out).mono ?_
  rintro e w1 ⟨rfl, hb1⟩
  have Tw1 := Lib.hid (Tw.out.below hb1)
  go_wp2_with fail
  refine (HWK.out w1 l (by omega)).mono ?_
  rintro e w2 ⟨v2, rfl, hown2, hb2⟩
  have Tw2 := Lib.hid (Tw1.out.below hb2)
  rw [HXS.out] at hown2
  obtain ⟨p2, c2, rfl, hrw2, hc2, _⟩ := own_rw hown2
  have hb02 := hb1.trans (hb2.mono hb1.size)
  have hxl := HL.out
  clear hown2 hb2
  go_wp2_with fail
  go_loop [16, 5] (fun i v => ∃ (k q : Nat), k ≤ xs.length ∧ i = .int .i64 (k : Int) ∧ q ≤ l.length ∧ Hid (rpick most 0 (xs.take k) = q) ∧ v = .string (str (l.take q))) (fun i _ => xs.length - (intOf i).toNat)
  case atStart => exact ⟨0, 0, by omega, rfl, by omega, Lib.hid rfl, by simp [str]⟩
  case round =>
    obtain ⟨k, q, hk, rfl, hq, HQ, rfl⟩ := hrel
    by_cases hlt : k < xs.length
    · obtain ⟨g, o, rfl, hgb, hcell⟩ := hrw2.at_ (i := k) (by rw [List.length_map]; exact hlt)
      rw [List.getElem_map] at hcell
      have hxi := HIN.out xs[k] (List.getElem_mem hlt)
      have HSN := Lib.hid (show rpick most 0 (xs.take (k + 1)) = if ((xs[k] : Nat) : Int) ≤ most then xs[k] else q by rw [List.take_succ_eq_append_getElem hlt, rpick_snoc, HQ.out])
      unfold nv at hcell
      generalize xs[k] = x at *
      have hx : x ≤ l.length := by omega
      have hup := str_upto l x hx
      clear hxi
      by_cases hm : (x : Int) ≤ most
      · rw [if_pos hm] at HSN
        go_wp2_with fail
        go_round
        case rel => exact ⟨k + 1, x, by omega, by go_num, hx, HSN, rfl⟩
        case measure => simp [intOf]; omega
      · rw [if_neg hm] at HSN
        have hm' : most < (x : Int) := by omega
        go_wp2_with fail
        go_round
        case rel => exact ⟨k + 1, q, by omega, by go_num, hq, HSN, rfl⟩
        case measure => simp [intOf]; omega
    · obtain rfl : k = xs.length := by omega
      have hqc : q = rclip l most := by rw [← HQ.out, List.take_length]; exact HPK.out
      have HQC := Lib.hid hqc
      clear hqc
      go_wp2_with fail
      refine (HCL.out w2 Tw2.out).mono ?_
      rintro e w3 ⟨he, h3⟩
      have Tw3 := Lib.hid (Tw2.out.below h3)
      unfold rclipL at he
      rw [← HQC.out] at he
      subst he
      go_wp2_with fail
      go_ret
      exact ⟨rfl, hb02.trans (h3.mono hb02.size)⟩
set_option maxRecDepth 100000 in
theorem rclips_law (w : World) (hT : Tab w) (l : List UInt8) (most : Int) (lo : -9223372036854775808 ≤ most) (hi : most < 9223372036854775808) :
    Calls Tryd.prog 4 #[.string (str l), .int .i64 most] w fun e w' => e = .returned (.bool true) ∧ Below w.heap.size w w' := by
  have Tw := Lib.hid hT
  by_cases h : l.length ≤ 300
  · exact rclips_in w hT l most h lo hi
  · have h' : 300 < l.length := by omega
    have hz : (str l).size = l.length := strSize l
    go_enter Tryd.func4, Tryd.ntmps4
    go_wp2_with fail
    refine (alive06_any w Tw.out).mono ?_
    rintro e w1 ⟨rfl, hb1⟩
    have Tw1 := Lib.hid (Tw.out.below hb1)
    go_wp2_with fail
    go_ret
    exact ⟨rfl, hb1⟩

set_option maxRecDepth 100000 in
set_option maxHeartbeats 4000000 in
theorem rparts_in (w : World) (hT : Tab w) (l m : List UInt8) (most : Int) (hl : l.length ≤ 200) (hm : m.length ≤ 200) (lo : -9223372036854775808 ≤ most) (hi : most < 9223372036854775808) :
    Calls Tryd.prog 5 #[.string (str l), .string (str m), .int .i64 most] w fun e w' => e = .returned (.bool true) ∧ Below w.heap.size w w' := by
  have Tw := Lib.hid hT
  have hz : (str l).size = l.length := strSize l
  have hz2 : (str m).size = m.length := strSize m
  have hl' : ¬ (200 : Int) < (l.length : Int) := by omega
  have hm' : ¬ (200 : Int) < (m.length : Int) := by omega
  have hq := rclip_le l most
  have hqr := rclip_right l most
  have HCL := Lib.hid (fun u (hu : Tab u) => rClip_any u hu l most (by omega) lo hi)
  obtain ⟨q, hqq⟩ : ∃ q, rclip l most = q := ⟨_, rfl⟩
  unfold rclipL at HCL
  rw [hqq] at hq hqr
  simp only [hqq] at HCL
  clear hqq
  have hup := str_upto l q hq
  have hfr := str_from l q hq
  obtain ⟨C, hC⟩ : ∃ C, l.take q = C := ⟨_, rfl⟩
  have hzc : (str C).size = q := by rw [strSize, ← hC, List.length_take, Nat.min_eq_left hq]
  rw [hC] at hqr hup
  simp only [hC] at HCL
  have hCl : C.length ≤ 200 := by rw [← hC, List.length_take]; omega
  have HRC := Lib.hid (fun u (hu : Tab u) => by have h := rRight_any u hu C (by omega); rw [(rrightB_iff C).2 hqr.1] at h; exact h)
  have hq' : (q : Int) ≤ (l.length : Int) := by omega
  have hpre : ∀ u, Tab u → Calls Tryd.prog 6 #[] u fun e w' => e = .returned (.bool true) ∧ Below u.heap.size u w' := alive06_any
  have HAL := Lib.hid hpre
  clear hpre hC
  by_cases hs : rright l
  · have HRL := Lib.hid (fun u (hu : Tab u) => by have h := rRight_any u hu l (by omega); rw [(rrightB_iff l).2 hs] at h; exact h)
    have HRD := Lib.hid (fun u (hu : Tab u) => by have h := rRight_any u hu (l.drop q) (by rw [List.length_drop]; omega); rw [(rrightB_iff _).2 (hqr.2 hs)] at h; exact h)
    obtain ⟨X, hX⟩ : ∃ X, l ++ m = X := ⟨_, rfl⟩
    have hap : str l ++ str m = str X := by rw [str_append, hX]
    have hns : ¬ 9223372036854775807 < (str l).size + (str m).size := by rw [hz, hz2]; omega
    have hXl : X.length ≤ 1000000 := by rw [← hX, List.length_append]; omega
    have hXr := rright_append l m hs
    have hXc := (rscan_append l m hs).2
    rw [hX] at hXr hXc
    clear hX hqr
    have HNC := Lib.hid (fun u (hu : Tab u) => rCount_any u hu l (by omega))
    have HND := Lib.hid (fun u (hu : Tab u) => rCount_any u hu m (by omega))
    have HNX := Lib.hid (fun u (hu : Tab u) => by have h := rCount_any u hu X hXl; rw [hXc] at h; exact h)
    have hn1 : rcount l ≤ 200 := by have := rcount_le l; have := rend_le l; omega
    have hn2 : rcount m ≤ 200 := by have := rcount_le m; have := rend_le m; omega
    clear hXc
    generalize rcount l = n1 at *
    generalize rcount m = n2 at *
    have hnn : ((n1 + n2 : Nat) : Int) = (n1 : Int) + (n2 : Int) := by omega
    simp only [hnn] at HNX
    clear hnn
    generalize l.drop q = D at *
    by_cases ht : rright m
    · have HRM := Lib.hid (fun u (hu : Tab u) => by have h := rRight_any u hu m (by omega); rw [(rrightB_iff m).2 ht] at h; exact h)
      have HRX := Lib.hid (fun u (hu : Tab u) => by have h := rRight_any u hu X hXl; rw [(rrightB_iff X).2 (hXr.2 ht)] at h; exact h)
      clear hXr ht hs
      go_enter Tryd.func5, Tryd.ntmps5
      go_wp2_with fail
      refine (HAL.out w Tw.out).mono ?_
      rintro e w1 ⟨rfl, g1⟩
      have Tw1 := Lib.hid (Tw.out.below g1)
      go_wp2_with fail
      refine (HCL.out w1 Tw1.out).mono ?_
      rintro e w2 ⟨rfl, g2⟩
      have Tw2 := Lib.hid (Tw1.out.below g2)
      go_wp2_with fail
      refine (HRC.out w2 Tw2.out).mono ?_
      rintro e w3 ⟨rfl, g3⟩
      have Tw3 := Lib.hid (Tw2.out.below g3)
      go_wp2_with fail
      refine (HRL.out w3 Tw3.out).mono ?_
      rintro e w4 ⟨rfl, g4⟩
      have Tw4 := Lib.hid (Tw3.out.below g4)
      go_wp2_with fail
      refine (HRD.out w4 Tw4.out).mono ?_
      rintro e w5 ⟨rfl, g5⟩
      have Tw5 := Lib.hid (Tw4.out.below g5)
      go_wp2_with fail
      refine (HRX.out w5 Tw5.out).mono ?_
      rintro e w6 ⟨rfl, g6⟩
      have Tw6 := Lib.hid (Tw5.out.below g6)
      go_wp2_with fail
      refine (HRM.out w6 Tw6.out).mono ?_
      rintro e w7 ⟨rfl, g7⟩
      have Tw7 := Lib.hid (Tw6.out.below g7)
      go_wp2_with fail
      refine (HRM.out w7 Tw7.out).mono ?_
      rintro e w8 ⟨rfl, g8⟩
      have Tw8 := Lib.hid (Tw7.out.below g8)
      go_wp2_with fail
      refine (HNX.out w8 Tw8.out).mono ?_
      rintro e w9 ⟨rfl, g9⟩
      have Tw9 := Lib.hid (Tw8.out.below g9)
      go_wp2_with fail
      refine (HNC.out w9 Tw9.out).mono ?_
      rintro e w10 ⟨rfl, g10⟩
      have Tw10 := Lib.hid (Tw9.out.below g10)
      go_wp2_with fail
      refine (HND.out w10 Tw10.out).mono ?_
      rintro e w11 ⟨rfl, g11⟩
      have Tw11 := Lib.hid (Tw10.out.below g11)
      go_wp2_with fail
      go_ret
      have b1 : Below w.heap.size w w1 := g1
      have b2 := b1.trans (g2.mono b1.size)
      have b3 := b2.trans (g3.mono b2.size)
      have b4 := b3.trans (g4.mono b3.size)
      have b5 := b4.trans (g5.mono b4.size)
      have b6 := b5.trans (g6.mono b5.size)
      have b7 := b6.trans (g7.mono b6.size)
      have b8 := b7.trans (g8.mono b7.size)
      have b9 := b8.trans (g9.mono b8.size)
      have b10 := b9.trans (g10.mono b9.size)
      have b11 := b10.trans (g11.mono b10.size)
      exact ⟨rfl, b11⟩
    · have hmf : rrightB m = false := by rw [← Bool.not_eq_true, rrightB_iff]; exact ht
      have hxf : rrightB X = false := by rw [← Bool.not_eq_true, rrightB_iff, hXr]; exact ht
      have HRM := Lib.hid (fun u (hu : Tab u) => by have h := rRight_any u hu m (by omega); rw [hmf] at h; exact h)
      have HRX := Lib.hid (fun u (hu : Tab u) => by have h := rRight_any u hu X hXl; rw [hxf] at h; exact h)
      clear hXr ht hs hmf hxf
      go_enter Tryd.func5, Tryd.ntmps5
      go_wp2_with fail
      refine (HAL.out w Tw.out).mono ?_
      rintro e w1 ⟨rfl, g1⟩
      have Tw1 := Lib.hid (Tw.out.below g1)
      go_wp2_with fail
      refine (HCL.out w1 Tw1.out).mono ?_
      rintro e w2 ⟨rfl, g2⟩
      have Tw2 := Lib.hid (Tw1.out.below g2)
      go_wp2_with fail
      refine (HRC.out w2 Tw2.out).mono ?_
      rintro e w3 ⟨rfl, g3⟩
      have Tw3 := Lib.hid (Tw2.out.below g3)
      go_wp2_with fail
      refine (HRL.out w3 Tw3.out).mono ?_
      rintro e w4 ⟨rfl, g4⟩
      have Tw4 := Lib.hid (Tw3.out.below g4)
      go_wp2_with fail
      refine (HRD.out w4 Tw4.out).mono ?_
      rintro e w5 ⟨rfl, g5⟩
      have Tw5 := Lib.hid (Tw4.out.below g5)
      go_wp2_with fail
      refine (HRX.out w5 Tw5.out).mono ?_
      rintro e w6 ⟨rfl, g6⟩
      have Tw6 := Lib.hid (Tw5.out.below g6)
      go_wp2_with fail
      refine (HRM.out w6 Tw6.out).mono ?_
      rintro e w7 ⟨rfl, g7⟩
      have Tw7 := Lib.hid (Tw6.out.below g7)
      go_wp2_with fail
      refine (HRM.out w7 Tw7.out).mono ?_
      rintro e w8 ⟨rfl, g8⟩
      have Tw8 := Lib.hid (Tw7.out.below g8)
      go_wp2_with fail
      go_ret
      have b1 : Below w.heap.size w w1 := g1
      have b2 := b1.trans (g2.mono b1.size)
      have b3 := b2.trans (g3.mono b2.size)
      have b4 := b3.trans (g4.mono b3.size)
      have b5 := b4.trans (g5.mono b4.size)
      have b6 := b5.trans (g6.mono b5.size)
      have b7 := b6.trans (g7.mono b6.size)
      have b8 := b7.trans (g8.mono b7.size)
      exact ⟨rfl, b8⟩
  · have hlf : rrightB l = false := by rw [← Bool.not_eq_true, rrightB_iff]; exact hs
    have HRL := Lib.hid (fun u (hu : Tab u) => by have h := rRight_any u hu l (by omega); rw [hlf] at h; exact h)
    have hr := rend_le l
    have hrn : rend l ≠ l.length := hs
    have htk := (rscan_take l).2
    have HFL := Lib.hid (fun u (hu : Tab u) => by have h := rFault_any u hu l (by omega); unfold rfault at h; rw [if_neg hrn] at h; exact h)
    have HCT := Lib.hid (fun u (hu : Tab u) => by have h := rCount_any u hu (l.take (rend l)) (by rw [List.length_take]; omega); rw [htk] at h; exact h)
    have HCN := Lib.hid (fun u (hu : Tab u) => rCount_any u hu l (by omega))
    have hur := str_upto l (rend l) hr
    clear hlf hrn htk hs hqr hfr
    generalize rend l = r at *
    generalize rcount l = n at *
    generalize l.take r = T at *
    go_enter Tryd.func5, Tryd.ntmps5
    go_wp2_with fail
    refine (HAL.out w Tw.out).mono ?_
    rintro e w1 ⟨rfl, g1⟩
    have Tw1 := Lib.hid (Tw.out.below g1)
    go_wp2_with fail
    refine (HCL.out w1 Tw1.out).mono ?_
    rintro e w2 ⟨rfl, g2⟩
    have Tw2 := Lib.hid (Tw1.out.below g2)
    go_wp2_with fail
    refine (HRC.out w2 Tw2.out).mono ?_
    rintro e w3 ⟨rfl, g3⟩
    have Tw3 := Lib.hid (Tw2.out.below g3)
    go_wp2_with fail
    refine (HRL.out w3 Tw3.out).mono ?_
    rintro e w4 ⟨rfl, g4⟩
    have Tw4 := Lib.hid (Tw3.out.below g4)
    go_wp2_with fail
    refine (HCN.out w4 Tw4.out).mono ?_
    rintro e w5 ⟨rfl, g5⟩
    have Tw5 := Lib.hid (Tw4.out.below g5)
    go_wp2_with fail
    refine (HFL.out w5 Tw5.out).mono ?_
    rintro e w6 ⟨rfl, g6⟩
    have Tw6 := Lib.hid (Tw5.out.below g6)
    go_wp2_with fail
    refine (HCT.out w6 Tw6.out).mono ?_
    rintro e w7 ⟨rfl, g7⟩
    have Tw7 := Lib.hid (Tw6.out.below g7)
    go_wp2_with fail
    go_ret
    have b1 : Below w.heap.size w w1 := g1
    have b2 := b1.trans (g2.mono b1.size)
    have b3 := b2.trans (g3.mono b2.size)
    have b4 := b3.trans (g4.mono b3.size)
    have b5 := b4.trans (g5.mono b4.size)
    have b6 := b5.trans (g6.mono b5.size)
    have b7 := b6.trans (g7.mono b6.size)
    exact ⟨rfl, b7⟩

set_option maxRecDepth 100000 in
theorem rparts_law (w : World) (hT : Tab w) (l m : List UInt8) (most : Int) (lo : -9223372036854775808 ≤ most) (hi : most < 9223372036854775808) :
    Calls Tryd.prog 5 #[.string (str l), .string (str m), .int .i64 most] w fun e w' => e = .returned (.bool true) ∧ Below w.heap.size w w' := by
  have Tw := Lib.hid hT
  have hz : (str l).size = l.length := strSize l
  have hz2 : (str m).size = m.length := strSize m
  by_cases h : l.length ≤ 200
  · by_cases h2 : m.length ≤ 200
    · exact rparts_in w hT l m most h h2 lo hi
    · have h' : ¬ (200 : Int) < (l.length : Int) := by omega
      have h2' : (200 : Int) < (m.length : Int) := by omega
      go_enter Tryd.func5, Tryd.ntmps5
      go_wp2_with fail
      refine (alive06_any w Tw.out).mono ?_
      rintro e w1 ⟨rfl, hb1⟩
      have Tw1 := Lib.hid (Tw.out.below hb1)
      go_wp2_with fail
      go_ret
      exact ⟨rfl, hb1⟩
  · have h' : (200 : Int) < (l.length : Int) := by omega
    go_enter Tryd.func5, Tryd.ntmps5
    go_wp2_with fail
    refine (alive06_any w Tw.out).mono ?_
    rintro e w1 ⟨rfl, hb1⟩
    have Tw1 := Lib.hid (Tw.out.below hb1)
    go_wp2_with fail
    go_ret
    exact ⟨rfl, hb1⟩
end Go.Proofs.YtbcokjhmfbfekaaDoor
