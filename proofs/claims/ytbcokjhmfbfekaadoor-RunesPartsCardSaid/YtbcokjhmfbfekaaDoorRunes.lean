/- The contracts of package runes' calls: Size, pass, Right, Fault, Count, Clip. Condition: texts of at most a million bytes; the tables of unicode/utf8 hold what the library lays (Tab). -/
import Derived.Test.YtbcokjhmfbfekaaDoorProg
import Derived.Test.YtbcokjhmfbfekaaDoorMem
import Derived.Test.YtbcokjhmfbfekaaDoorStrs
import Derived.Test.YtbcokjhmfbfekaaDoorRunesMath
import Derived.Test.YtbcokjhmfbfekaaDoorRunesSay
import Derived.Test.YtbcokjhmfbfekaaDoorUtf
import Derived.Test.YtbcokjhmfbfekaaDoorClone
namespace Go.Proofs.YtbcokjhmfbfekaaDoor
open Go.RowKit

set_option maxRecDepth 100000 in
theorem rSize_any (w : World) (hT : Tab w) (l : List UInt8) : Says 11 w #[.string (str l)] (.int .i64 (rsize l : Int)) := by
  unfold Says
  have hd := decode_any w hT l
  unfold Dec at hd
  obtain ⟨S, hS⟩ : ∃ S, rsize l = S := ⟨_, rfl⟩
  rw [hS] at hd ⊢
  have HD := Lib.hid hd
  clear hd hS hT
  go_enter Tryd.func11, Tryd.ntmps11
  go_wp2_with fail
  refine HD.out.mono ?_
  rintro e w1 ⟨R, K, rfl, hD, hb⟩
  rcases hD with ⟨rfl, rfl, rfl⟩ | ⟨hne, rfl⟩
  · go_wp2_with fail
    go_ret
    exact ⟨rfl, hb⟩
  · by_cases h1 : R = 65533
    · have h2 : ¬ (S : Int) = 1 := fun h => hne ⟨h1, h⟩
      subst h1
      clear hne
      go_wp2_with fail
      go_ret
      exact ⟨rfl, hb⟩
    · clear hne
      go_wp2_with fail
      go_ret
      exact ⟨rfl, hb⟩

theorem rcount_more {m : List UInt8} (q : Nat) (h : rsize m ≠ 0) : rcount (m.take (rsize m + q)) = rcount ((m.drop (rsize m)).take q) + 1 := by
  have e : rsize (m.take (rsize m + q)) = rsize m := rsize_take m _ (by omega) (by omega)
  have hz : rsize (m.take (rsize m + q)) ≠ 0 := by rw [e]; exact h
  have hd : (m.take (rsize m + q)).drop (rsize m) = (m.drop (rsize m)).take q := by rw [List.drop_take, Nat.add_sub_cancel_left]
  rw [rcount_step hz, e, hd]
/-- How far it is, and how many runes these are: what is left to do from the place k on. -/
def Left2 (l : List UInt8) (most : Int) (k n : Nat) : Prop :=
  rclip l most = k + rclip (l.drop k) (most - (k : Int)) ∧ rcount (l.take (rclip l most)) = n + rcount ((l.drop k).take (rclip (l.drop k) (most - (k : Int))))
theorem left_start (l : List UInt8) (most : Int) : Left2 l most 0 0 := by
  unfold Left2
  simp
theorem left_step {l : List UInt8} {most : Int} {k n : Nat} (h : Left2 l most k n) (hz : rsize (l.drop k) ≠ 0) (hm : (rsize (l.drop k) : Int) ≤ most - (k : Int)) : Left2 l most (k + rsize (l.drop k)) (n + 1) := by
  obtain ⟨h1, h2⟩ := h
  have e : most - ((k + rsize (l.drop k) : Nat) : Int) = most - (k : Int) - (rsize (l.drop k) : Int) := by omega
  have hs := rclip_step hz hm
  rw [List.drop_drop] at hs
  unfold Left2
  rw [e]
  refine ⟨by rw [h1, hs]; omega, ?_⟩
  rw [h2, hs, rcount_more _ hz, List.drop_drop]
  omega
theorem left_end {l : List UInt8} {most : Int} {k n : Nat} (h : Left2 l most k n) (hz : rsize (l.drop k) = 0 ∨ most - (k : Int) < (rsize (l.drop k) : Int)) : rclip l most = k ∧ rcount (l.take (rclip l most)) = n := by
  obtain ⟨h1, h2⟩ := h
  rw [rclip_stop hz] at h1 h2
  refine ⟨h1, ?_⟩
  rw [h2, List.take_zero, rcount_stop rsize_nil]
  rfl
theorem rclip_all (l : List UInt8) : ∀ most : Int, (l.length : Int) ≤ most → rclip l most = rend l := by
  refine rune_induct (P := fun l => ∀ most : Int, (l.length : Int) ≤ most → rclip l most = rend l) (fun l h most _ => by rw [rclip_stop (.inl h), rend_stop h]) (fun l h ih most hm => ?_) l
  have hle := rsize_le l
  rw [rclip_step h (by omega), rend_step h, ih _ (by rw [List.length_drop]; omega)]
  omega

set_option maxRecDepth 100000 in
set_option maxHeartbeats 2000000 in
theorem pass_any (w : World) (hT : Tab w) (l : List UInt8) (most : Int) (hl : l.length ≤ 1000000) (lo : -9223372036854775808 ≤ most) (hi : most < 9223372036854775808) :
    Says 14 w #[.string (str l), .int .i64 most] (.tuple #[.int .i64 (rcount (l.take (rclip l most)) : Int), .int .i64 (rclip l most : Int)]) := by
  unfold Says
  have hz : (str l).size = l.length := strSize l
  have HT := Lib.hid hT
  have H0 := Lib.hid (left_start l most)
  have HE := Lib.hid (fun (k n : Nat) => left_end (l := l) (most := most) (k := k) (n := n))
  have HST := Lib.hid (fun (k n : Nat) => left_step (l := l) (most := most) (k := k) (n := n))
  obtain ⟨Q, hQ⟩ : ∃ Q, rclip l most = Q := ⟨_, rfl⟩
  obtain ⟨N, hN⟩ : ∃ N, rcount (l.take (rclip l most)) = N := ⟨_, rfl⟩
  rw [hN, hQ]
  rw [hN, hQ] at HE
  clear hN hQ hT
  go_enter Tryd.func14, Tryd.ntmps14
  go_wp2_with fail
  refine (rSize_any w HT.out l).mono ?_
  rintro e w1 ⟨rfl, hb1⟩
  have HT1 := Lib.hid (HT.out.below hb1)
  go_wp2_with fail
  go_loopw [4, 5, 6] (fun c i z wr => ∃ k n : Nat, k ≤ l.length ∧ n ≤ k ∧ (k = 0 ∨ (k : Int) ≤ most) ∧ c = .int .i64 (n : Int) ∧ i = .int .i64 (k : Int) ∧ z = .int .i64 (rsize (l.drop k) : Int) ∧ Hid (Left2 l most k n) ∧ Hid (Tab wr) ∧ Below w.heap.size w wr) (fun _ i _ _ => l.length - (intOf i).toNat)
  case atStart => exact ⟨0, 0, by omega, by omega, .inl rfl, rfl, rfl, by rw [List.drop_zero], H0, HT1, hb1⟩
  case round =>
    obtain ⟨k, n, hk, hn, hkm, rfl, rfl, rfl, HL, HTr, hbr⟩ := hrel
    clear H0 hb1
    have HE2 := Lib.hid (HE.out k n HL.out)
    have HS2 := Lib.hid (HST.out k n HL.out)
    have hle := rsize_le (l.drop k)
    rw [List.length_drop] at hle
    obtain ⟨z, hzz⟩ : ∃ z, rsize (l.drop k) = z := ⟨_, rfl⟩
    rw [hzz] at hle HE2 HS2 ⊢
    clear hzz
    have hwr : IntKind.i64.wrap (most - (k : Int)) = most - (k : Int) := by rw [IntKind.wrap_i64]; omega
    by_cases hz0 : z = 0
    · obtain ⟨e1, e2⟩ := HE2.out (.inl hz0)
      subst e1 e2 hz0
      go_wp2_with fail
      go_ret2
      exact ⟨rfl, hbr⟩
    · have hzp : (0 : Int) < (z : Int) := by omega
      by_cases hm : most - (k : Int) < (z : Int)
      · obtain ⟨e1, e2⟩ := HE2.out (.inr hm)
        subst e1 e2
        have hm' : ¬ (z : Int) ≤ most - (Q : Int) := by omega
        go_wp2_with fail
        go_ret2
        exact ⟨rfl, hbr⟩
      · have hm' : (z : Int) ≤ most - (k : Int) := by omega
        have HL2 := Lib.hid (HS2.out hz0 hm')
        have hfrom := str_from l (k + z) (by omega)
        have hkz : ((k + z : Nat) : Int) = (k : Int) + (z : Int) := by omega
        rw [hkz] at hfrom
        have hsz := hbr.size
        go_wp2_with fail
        refine (rSize_any _ HTr.out (l.drop (k + z))).mono ?_
        rintro e w2 ⟨rfl, hb2⟩
        have HT2 := Lib.hid (HTr.out.below hb2)
        go_wp2_with fail
        go_round
        case rel => exact ⟨k + z, n + 1, by omega, by omega, .inr (by omega), by go_num, by go_num, rfl, HL2, HT2, hbr.trans (hb2.mono hsz)⟩
        case measure => simp [intOf]; omega

set_option maxRecDepth 100000 in
theorem rFault_any (w : World) (hT : Tab w) (l : List UInt8) (hl : l.length ≤ 1000000) : Says 9 w #[.string (str l)] (.int .i64 (rfault l)) := by
  unfold Says
  have hz : (str l).size = l.length := strSize l
  have HP := Lib.hid (pass_any w hT l (l.length : Int) hl (by omega) (by omega))
  rw [rclip_all l _ (Int.le_refl _), (rscan_take l).2] at HP
  unfold rfault
  have hle := rend_le l
  generalize rend l = r at *
  generalize rcount l = n at *
  by_cases h : r = l.length
  · rw [if_pos h]
    subst h
    go_enter Tryd.func9, Tryd.ntmps9
    go_wp2_with fail
    refine HP.out.mono ?_
    rintro e w1 ⟨rfl, hb⟩
    go_wp2_with fail
    go_ret
    exact ⟨rfl, hb⟩
  · rw [if_neg h]
    have h' : ¬ ((r : Nat) : Int) = (l.length : Int) := by omega
    go_enter Tryd.func9, Tryd.ntmps9
    go_wp2_with fail
    refine HP.out.mono ?_
    rintro e w1 ⟨rfl, hb⟩
    go_wp2_with fail
    go_ret
    exact ⟨rfl, hb⟩
set_option maxRecDepth 100000 in
theorem rRight_any (w : World) (hT : Tab w) (l : List UInt8) (hl : l.length ≤ 1000000) : Says 8 w #[.string (str l)] (.bool (rrightB l)) := by
  unfold Says
  have HP := Lib.hid (rFault_any w hT l hl)
  have hle := rend_le l
  unfold rfault at HP
  unfold rrightB
  generalize rend l = r at *
  by_cases h : r = l.length
  · rw [decide_eq_true h]
    rw [if_pos h] at HP
    clear h
    go_enter Tryd.func8, Tryd.ntmps8
    go_wp2_with fail
    refine HP.out.mono ?_
    rintro e w1 ⟨rfl, hb⟩
    go_wp2_with fail
    go_ret
    exact ⟨rfl, hb⟩
  · rw [decide_eq_false h]
    rw [if_neg h] at HP
    clear h
    have h' : ¬ ((r : Nat) : Int) < 0 := by omega
    go_enter Tryd.func8, Tryd.ntmps8
    go_wp2_with fail
    refine HP.out.mono ?_
    rintro e w1 ⟨rfl, hb⟩
    go_wp2_with fail
    go_ret
    exact ⟨rfl, hb⟩
set_option maxRecDepth 100000 in
theorem rCount_any (w : World) (hT : Tab w) (l : List UInt8) (hl : l.length ≤ 1000000) : Says 10 w #[.string (str l)] (.int .i64 (rcount l : Int)) := by
  unfold Says
  have hz : (str l).size = l.length := strSize l
  have HP := Lib.hid (pass_any w hT l (l.length : Int) hl (by omega) (by omega))
  rw [rclip_all l _ (Int.le_refl _), (rscan_take l).2] at HP
  generalize rend l = r at *
  generalize rcount l = n at *
  go_enter Tryd.func10, Tryd.ntmps10
  go_wp2_with fail
  refine HP.out.mono ?_
  rintro e w1 ⟨rfl, hb⟩
  go_wp2_with fail
  go_ret
  exact ⟨rfl, hb⟩
set_option maxRecDepth 100000 in
theorem rClip_any (w : World) (hT : Tab w) (l : List UInt8) (most : Int) (hl : l.length ≤ 1000000) (h1 : -9223372036854775808 ≤ most) (h2 : most < 9223372036854775808) : Says 13 w #[.string (str l), .int .i64 most] (.string (str (rclipL l most))) := by
  unfold Says
  have HP := Lib.hid (pass_any w hT l most hl h1 h2)
  have hle := rclip_le l most
  unfold rclipL
  generalize rcount (l.take (rclip l most)) = n at *
  generalize rclip l most = q at *
  have hup := str_upto l q hle
  have HC := Lib.hid (fun u => clone_any u (l.take q) (by rw [List.length_take]; omega))
  generalize l.take q = C at *
  go_enter Tryd.func13, Tryd.ntmps13
  go_wp2_with fail
  refine HP.out.mono ?_
  rintro e w1 ⟨rfl, hb⟩
  go_wp2_with fail
  refine (HC.out _).mono ?_
  rintro e w2 ⟨rfl, hb2⟩
  go_wp2_with fail
  go_ret
  exact ⟨rfl, hb.trans (hb2.mono hb.size)⟩
end Go.Proofs.YtbcokjhmfbfekaaDoor
