/- The contract of redlineref05.Sum. Condition: fewer than 2^47 bytes. -/
import Derived.Test.YtgedbeghegncoaaDoorProg
import Derived.Test.YtgedbeghegncoaaDoorMem
import Derived.Test.YtgedbeghegncoaaDoorNums
import Derived.Test.YtgedbeghegncoaaDoorCrcMath
import Derived.Test.YtgedbeghegncoaaDoorCrcHalf
import Derived.Laws.BitsAllLaws
import Derived.Laws.BitsLemmas
import Derived.WalkSpells
namespace Go.Proofs.YtgedbeghegncoaaDoor
open Go.RowKit

theorem u32_xor_lit (V c : Nat) (h : V < 4294967296) (hc : c < 4294967296) : bits .xor .u32 ((V : Int) / 2) (c : Int) = ((V / 2 ^^^ c : Nat) : Int) := by
  have h := u32_xor_nat (V / 2) c (by omega) hc
  rw [Int.natCast_ediv] at h
  exact h
theorem u32_xor_down (V : Nat) (h : V < 4294967296) : bits .xor .u32 ((V : Int) / 2) 3988292384 = ((V / 2 ^^^ 3988292384 : Nat) : Int) := u32_xor_lit V 3988292384 h (by decide)
theorem u32_xor_all (V : Nat) (h : V < 4294967296) : bits .xor .u32 (V : Int) 4294967295 = ((V ^^^ 4294967295 : Nat) : Int) := u32_xor_nat V 4294967295 h (by decide)

set_option maxRecDepth 100000 in
set_option maxHeartbeats 1000000 in
theorem refSum_any (w : World) (p : Option Addr) (l : List UInt8) (c B : Nat) (hl : l.length ≤ 140737488351232) (hs : Sl w B p l) :
    Calls Tryd.prog 12 #[.slice p l.length c] w fun e w' => e = .returned (.int .u32 (crcSum l : Nat)) ∧ w = w' := by
  go_enter Tryd.func12, Tryd.ntmps12
  go_wp2_with fail
  go_loop [10, 3] (fun i x => ∃ k : Nat, k ≤ l.length ∧ i = .int .i64 k ∧ x = .int .u32 ((crcF 4294967295 (l.take k) : Nat) : Int)) (fun i _ => l.length - (intOf i).toNat)
  case atStart => exact ⟨0, by omega, rfl, rfl⟩
  case round =>
    obtain ⟨k, hk, rfl, rfl⟩ := hrel
    have hF := crcF_lt (x := 4294967295) (l.take k) (by decide)
    have hF' : crcF 4294967295 (l.take k) < 4294967296 := by simpa using hF
    clear hF
    by_cases hlt : k < l.length
    · obtain ⟨b, o, rfl, hb, hc⟩ := hs.at_ hlt
      have hn := crcF_cons 4294967295 l k hlt
      have hy := l[k].toNat_lt
      have HN := Lib.hid hn
      clear hn
      generalize crcF 4294967295 (l.take k) = X at *
      generalize l[k].toNat = y at *
      have hx1 := u32_xor_nat X y hF' (by omega)
      have hX1 : X ^^^ y < 4294967296 := xor_lt 32 hF' (by omega)
      generalize hZ : X ^^^ y = Z at *
      have HZ := Lib.hid hZ
      clear hZ
      have hZ8 := cls_lt 8 (x := Z) (by simpa using hX1)
      go_wp2_with fail
      go_loop [6, 3] (fun i x => ∃ j : Nat, j ≤ 8 ∧ i = .int .i64 j ∧ x = .int .u32 ((cls j Z : Nat) : Int)) (fun i _ => 8 - (intOf i).toNat)
      case atStart => exact ⟨0, by omega, rfl, rfl⟩
      case round =>
        obtain ⟨j, hj, rfl, rfl⟩ := hrel
        have hV := cls_lt j (x := Z) (by simpa using hX1)
        have hs1 := cls_succ j Z
        have HS := Lib.hid hs1
        clear hs1
        generalize hVe : cls j Z = V at *
        have HV := Lib.hid hVe
        clear hVe
        have hV' : V < 4294967296 := by simpa using hV
        have hx2 := u32_xor_down V hV'
        by_cases h8 : j < 8
        · by_cases hodd : V % 2 = 1
          · have hodd' : ((V : Nat) : Int) % 2 = 1 := by omega
            rw [cl_one hodd] at HS
            generalize hW : V / 2 ^^^ 3988292384 = W at *
            have HW := Lib.hid hW
            clear hW
            go_wp2
            go_round
            case rel => exact ⟨j + 1, by omega, by go_num, by rw [HS.out]⟩
            case measure => simp [intOf]; omega
          · have hodd' : ((V : Nat) : Int) % 2 = 0 := by omega
            rw [cl_no hodd] at HS
            go_wp2
            go_round
            case rel => exact ⟨j + 1, by omega, by go_num, by rw [HS.out]; go_num⟩
            case measure => simp [intOf]; omega
        · obtain rfl : j = 8 := by omega
          go_wp2
          go_round
          case rel => exact ⟨k + 1, by omega, by go_num, by rw [HN.out, ← HV.out]⟩
          case measure => simp [intOf]; omega
    · obtain rfl : k = l.length := by omega
      have e : l.take l.length = l := List.take_length
      rw [e] at hF' ⊢
      have hx2 := u32_xor_all (crcF 4294967295 l) hF'
      go_wp2
      go_ret
      exact ⟨rfl, rfl⟩
end Go.Proofs.YtgedbeghegncoaaDoor
